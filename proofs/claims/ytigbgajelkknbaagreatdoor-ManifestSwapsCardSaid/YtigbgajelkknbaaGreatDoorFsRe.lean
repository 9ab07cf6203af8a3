/- The reference of layer 2 (rubricref02): names in memory; what 'find' answers. The reference of layer 2 (rubricref02): what 'with' makes of names. The reference of layer 2 (rubricref02): what 'step' makes of a file system. The reference of layer 2 (rubricref02): what 'turn' makes of a file system. The reference of layer 2 (rubricref02): a file system of it, in memory; 'step' and 'SyncDir' by what they make of it. -/
import Derived.Test.YtigbgajelkknbaaGreatDoorFsX
import Derived.Test.YtigbgajelkknbaaGreatDoorFsOb
import Derived.Test.YtigbgajelkknbaaGreatDoorFsSw
import Derived.Test.YtigbgajelkknbaaGreatDoorQuiet
namespace Go.Proofs.YtigbgajelkknbaaGreatDoor
open Go.RowKit
set_option maxRecDepth 100000

/-- A name, and its file's number. -/
abbrev RN := ByteArray × Int
/-- The value v is a slice of these names, wherever. -/
def RNames (w : World) (v : Value) (l : List RN) : Prop :=
  (v = .slice none 0 0 ∧ l = []) ∨ ∃ b o cap, v = .slice (some ⟨b, o, none⟩) l.length cap ∧ b < w.heap.size ∧ ∀ (j : Nat) (n : RN), l[j]? = some n → w.cell? ⟨b, o + j * 2, none⟩ = some (.string n.1) ∧ w.cell? ⟨b, o + j * 2 + 1, none⟩ = some (.int .i64 n.2)
theorem RNames.slice {w : World} {v : Value} {l : List RN} (h : RNames w v l) : ∃ a c, v = .slice a l.length c := by
  rcases h with ⟨rfl, rfl⟩ | ⟨b, o, cap, rfl, _⟩
  · exact ⟨_, _, rfl⟩
  · exact ⟨_, _, rfl⟩
theorem RNames.below {w w' : World} {v : Value} {l : List RN} (h : RNames w v l) (hb : Below w.heap.size w w') : RNames w' v l := by
  rcases h with h | ⟨b, o, cap, rfl, h3, h4⟩
  · exact .inl h
  · exact .inr ⟨b, o, cap, rfl, Nat.lt_of_lt_of_le h3 hb.size, fun j n hn => ⟨by rw [World.cell?_of_block (w := w) (hb.block b h3)]; exact (h4 j n hn).1, by rw [World.cell?_of_block (w := w) (hb.block b h3)]; exact (h4 j n hn).2⟩⟩
/-- What 'find' answers. -/
def findR : List RN → ByteArray → Int
  | [], _ => -1
  | n :: l, s => if n.1 = s then n.2 else findR l s
theorem findR_drop (l : List RN) (s : ByteArray) {i : Nat} (hi : i < l.length) : findR (l.drop i) s = if (l[i]).1 = s then (l[i]).2 else findR (l.drop (i + 1)) s := by
  rw [List.drop_eq_getElem_cons hi]; rfl
theorem str_ne' {a b : ByteArray} (h : a ≠ b) : (a.toList == b.toList) = false := by
  rw [beq_eq_false_iff_ne]
  intro e
  rw [ByteArray.toList_eq, ByteArray.toList_eq] at e
  exact h (ByteArray.ext (Array.toList_inj.1 e))
set_option maxRecDepth 100000 in
set_option maxHeartbeats 1000000 in
theorem refFind_any (v : Value) (l : List RN) (s : ByteArray) (w : World) (h : RNames w v l) (hl : l.length < 4611686018427387904) :
    Calls Tryz.prog 110 #[v, .string s] w fun e w' => e = .returned (.int .i64 (findR l s)) ∧ w = w' := by
  obtain ⟨va, vc, rfl⟩ := h.slice
  have HH := Lib.hid h
  clear h
  go_enter Tryz.func110, Tryz.ntmps110
  go_wp2_with fail
  go_loopw [8] (fun s8 wr => ∃ i : Nat, i ≤ l.length ∧ s8 = .int .i64 i ∧ findR (l.drop i) s = findR l s ∧ w = wr)
    (fun s8 _ => l.length - (intOf s8).toNat)
  case atStart => exact ⟨0, Nat.zero_le _, rfl, rfl, rfl⟩
  case round =>
    obtain ⟨i, hi, rfl, hf, rfl⟩ := hrel
    have HF := Lib.hid hf
    clear hf
    by_cases hlt : i < l.length
    · have li : (i : Int) < l.length := by omega
      rcases HH.out with ⟨_, h0⟩ | ⟨b, o, cap, hv, hb, hc⟩
      · subst h0; simp at hlt
      cases hv
      have hd := findR_drop l s hlt
      obtain ⟨c1, c2⟩ := hc i _ (List.getElem?_eq_getElem hlt)
      generalize l[i] = n at c1 c2 hd
      obtain ⟨ns, nf⟩ := n
      simp only at c1 c2 hd
      have HD := Lib.hid hd
      clear hd hb hc
      by_cases he : ns = s
      · have hR : findR l s = nf := by rw [← HF.out, HD.out, if_pos he]
        have HR := Lib.hid hR
        clear hR
        subst he
        go_wp2_with fail
        go_ret
        exact ⟨by rw [HR.out]; rfl, rfl⟩
      · have hR : findR (l.drop (i + 1)) s = findR l s := by rw [← HF.out, HD.out, if_neg he]
        have HR := Lib.hid hR
        have he' : (ns.toList == s.toList) = false := str_ne' he
        clear hR
        go_wp2_with fail
        go_roundw
        case rel => exact ⟨i + 1, by omega, by go_num, HR.out, trivial⟩
        case measure => simp [intOf]; omega
    · have li : ¬ ((i : Int) < l.length) := by omega
      have hR : findR l s = -1 := by rw [← HF.out, List.drop_of_length_le (by omega)]; rfl
      have HR := Lib.hid hR
      clear hR
      go_wp2_with fail
      go_ret
      exact ⟨by rw [HR.out]; rfl, rfl⟩
end Go.Proofs.YtigbgajelkknbaaGreatDoor
namespace Go.Proofs.YtigbgajelkknbaaGreatDoor
open Go.RowKit
set_option maxRecDepth 100000

theorem rnInfo : (Tryz.prog.info? 133).map (fun i => (i.zero, i.size, i.bytes)) = some (some (.agg #[.string ⟨#[]⟩, .int .i64 0]), 2, 24) := by kernel_rfl
/-- The cells of names. -/
def flatRN (l : List RN) : List Value := l.flatMap fun n => [.string n.1, .int .i64 n.2]
/-- Names in a row of one's own. -/
def OwnRN (base : Nat) (w : World) (v : Value) (l : List RN) : Prop := w.ownsRow base 133 2 v l.length (flatRN l)
theorem OwnRN.slice {base : Nat} {w : World} {v : Value} {l : List RN} (h : OwnRN base w v l) : ∃ a c, v = .slice a l.length c := by
  rcases h.2 with ⟨rfl, h0⟩ | ⟨x, cap, cur, rfl, _⟩
  · exact ⟨none, 0, by rw [h0]⟩
  · exact ⟨_, _, rfl⟩
/-- What 'with' makes of the names that are left. -/
def withGo (n : RN) : List RN → Bool → List RN
  | [], done => if done then [] else [n]
  | x :: l, done => if x.1 = n.1 then withGo n l done else if done = false ∧ Op.bytesLess n.1.toList x.1.toList = true then n :: x :: withGo n l true else x :: withGo n l done
def withR (l : List RN) (n : RN) : List RN := withGo n l (decide (n.2 < 0))
theorem withGo_drop (n : RN) (l : List RN) (d : Bool) {i : Nat} (hi : i < l.length) : withGo n (l.drop i) d =
    if (l[i]).1 = n.1 then withGo n (l.drop (i + 1)) d else if d = false ∧ Op.bytesLess n.1.toList (l[i]).1.toList = true then n :: l[i] :: withGo n (l.drop (i + 1)) true else l[i] :: withGo n (l.drop (i + 1)) d := by
  rw [List.drop_eq_getElem_cons hi]; rfl
theorem flatRN_snoc (l : List RN) (x : RN) : flatRN (l ++ [x]) = flatRN l ++ [.string x.1, .int .i64 x.2] := by simp [flatRN]
section
variable {base : Nat} {w w' : World} {v : Value} {l : List RN}
theorem OwnRN.own (h : OwnRN base w v l) : ∀ j, v.ownBlock = some j → base ≤ j := by
  rcases h.2 with ⟨rfl, _⟩ | ⟨x, cap, cur, rfl, hb, _⟩
  · intro j hj; cases hj
  · intro j hj; cases hj; exact hb
theorem OwnRN.lower {b' : Nat} (h : OwnRN base w v l) (hb : b' ≤ base) : OwnRN b' w v l := by
  refine ⟨h.1, ?_⟩
  rcases h.2 with h | ⟨x, cap, cur, h1, h2, h3⟩
  · exact .inl h
  · exact .inr ⟨x, cap, cur, h1, Nat.le_trans hb h2, h3⟩
theorem OwnRN.names (h : OwnRN base w v l) : RNames w v l := by
  rcases h.2 with ⟨rfl, h0⟩ | ⟨x, cap, cur, rfl, hb, hh, h1, h2, h3, h4⟩
  · exact .inl ⟨rfl, List.length_eq_zero_iff.1 h0⟩
  · refine .inr ⟨x, 0, cap, rfl, (Array.getElem?_eq_some_iff.1 hh).1, fun j n hj => ?_⟩
    have hjl : j < l.length := (List.getElem?_eq_some_iff.1 hj).1
    have hf : ∀ (l : List RN) (j : Nat) (n : RN), l[j]? = some n → (flatRN l)[j * 2]? = some (.string n.1) ∧ (flatRN l)[j * 2 + 1]? = some (.int .i64 n.2) := by
      intro l
      induction l with
      | nil => intro j n h; cases h
      | cons a l ih =>
        intro j n h
        cases j with
        | zero => cases h; exact ⟨rfl, rfl⟩
        | succ j =>
          have := ih j n (by simpa using h)
          have e : flatRN (a :: l) = .string a.1 :: .int .i64 a.2 :: flatRN l := rfl
          rw [e, show (j + 1) * 2 = j * 2 + 1 + 1 by omega]
          simpa using this
    obtain ⟨f1, f2⟩ := hf l j n hj
    rw [← h4, List.getElem?_take_of_lt (by omega)] at f1 f2
    constructor
    · rw [cell_of_row w x (0 + j * 2) cur _ _ hh, ← Array.getElem?_toList, Nat.zero_add]; exact f1
    · rw [cell_of_row w x (0 + j * 2 + 1) cur _ _ hh, ← Array.getElem?_toList, Nat.zero_add]; exact f2
/-- What an append of one name wants, and what it gives. -/
theorem OwnRN.laid (h : OwnRN base w v l) (x : RN) : (w.alloc (.cells #[.string x.1, .int .i64 x.2] 133)).ownsRow base 133 2 v l.length (flatRN l) ∧
    ∀ j u, [Value.string x.1, .int .i64 x.2][j]? = some u → (w.alloc (.cells #[.string x.1, .int .i64 x.2] 133)).cell? ((⟨w.heap.size, 0, none⟩ : Addr).add j) = some u :=
  ⟨World.ownsRow.alloc h _, fun j u hu => by rw [Addr.add_mid, Nat.zero_add]; exact (Blk.new w 133 [.string x.1, .int .i64 x.2]).cell hu⟩
theorem OwnRN.snoc {x : RN} (h : w'.ownsRow base 133 2 v (l.length + 1) (flatRN l ++ [.string x.1, .int .i64 x.2])) : OwnRN base w' v (l ++ [x]) := by
  unfold OwnRN; rw [flatRN_snoc, List.length_append]; exact h
end
set_option maxRecDepth 100000 in
set_option maxHeartbeats 1000000 in
theorem refWith_any (v : Value) (l : List RN) (n : RN) (w : World) (h : RNames w v l) (hl : l.length < 10000) :
    Calls Tryz.prog 116 #[v, .agg #[.string n.1, .int .i64 n.2]] w fun e w' => ∃ v', e = .returned v' ∧ OwnRN w.heap.size w' v' (withR l n) ∧ Below w.heap.size w w' := by
  obtain ⟨va, vc, rfl⟩ := h.slice
  obtain ⟨ns, nf⟩ := n
  have HH := Lib.hid h
  clear h
  obtain ⟨i0, hi, hz0, hz1, hz2⟩ := info_parts rnInfo
  have HI0 := Lib.hid hi
  have HZ0 := Lib.hid hz0
  have HZ1 := Lib.hid hz1
  have HZ2 := Lib.hid hz2
  clear hi hz0 hz1 hz2
  go_enter Tryz.func116, Tryz.ntmps116
  go_wp2_with fail
  refine wp_world fun wB hwB => ?_
  have hBB : Below w.heap.size w wB := by rw [hwB]; exact (Below.refl _ _).alloc (Nat.le_refl _) _
  have hKB : Blk wB w.heap.size 133 [.string ns, .int .i64 nf] := by rw [hwB]; exact Blk.new w 133 [.string ns, .int .i64 nf]
  have hlt0 : w.heap.size < wB.heap.size := hKB.lt
  have HRN := Lib.hid (HH.out.below hBB)
  have HBB := Lib.hid hBB
  have HKB := Lib.hid hKB
  have HL0 := Lib.hid hlt0
  have hd0 : Hid (withGo (ns, nf) l (decide (nf < 0)) = withR l (ns, nf)) := rfl
  clear hwB hBB hKB hlt0
  generalize decide (nf < 0) = d0 at *
  go_loopw [5, 6, 13] (fun s5 s6 s13 wr => ∃ (i : Nat) (out : List RN) (d : Bool), i ≤ l.length ∧ s13 = .int .i64 i ∧ s6 = .bool d ∧ OwnRN wB.heap.size wr s5 out ∧ out.length ≤ 2 * i ∧ out ++ withGo (ns, nf) (l.drop i) d = withR l (ns, nf) ∧ Below wB.heap.size wB wr)
    (fun _ _ s13 _ => l.length - (intOf s13).toNat)
  case atStart => exact ⟨0, [], d0, Nat.zero_le _, rfl, rfl, World.ownsRow_nil _ _ _ _, Nat.le_refl _, hd0, Below.refl _ _⟩
  case round =>
    clear hd0
    obtain ⟨i, out, d, hi, rfl, rfl, hown, hol, hwr, hBr⟩ := hrel
    obtain ⟨oa, oc, rfl⟩ := hown.slice
    have HW := Lib.hid hwr
    have HO := Lib.hid hown
    have HB := Lib.hid hBr
    clear hwr hown hBr
    by_cases hlt : i < l.length
    · have li : (i : Int) < l.length := by omega
      rcases HRN.out with ⟨_, h0⟩ | ⟨b, o, cap, hv, hb, hc⟩
      · subst h0; simp at hlt
      cases hv
      have hgd := withGo_drop (ns, nf) l d hlt
      have hcc := hc i _ (List.getElem?_eq_getElem hlt)
      generalize l[i] = x at hcc hgd
      obtain ⟨xs, xf⟩ := x
      simp only at hcc hgd
      have HCW : Hid (∀ W, Below wB.heap.size wB W → W.cell? ⟨b, o + i * 2, none⟩ = some (.string xs) ∧ W.cell? ⟨b, o + i * 2 + 1, none⟩ = some (.int .i64 xf) ∧ W.cell? ⟨w.heap.size, 0, none⟩ = some (.string ns) ∧ W.cell? ⟨w.heap.size, 1, none⟩ = some (.int .i64 nf)) := fun W hW =>
        ⟨by rw [World.cell?_of_block (w := wB) (hW.block b hb)]; exact hcc.1, by rw [World.cell?_of_block (w := wB) (hW.block b hb)]; exact hcc.2,
          by rw [World.cell?_of_block (w := wB) (hW.block w.heap.size HL0.out)]; exact HKB.out.cell rfl, by rw [World.cell?_of_block (w := wB) (hW.block w.heap.size HL0.out)]; exact HKB.out.cell rfl⟩
      have HGD := Lib.hid hgd
      have HLEN := Lib.hid (show out.length ≤ 20000 by omega)
      clear hgd hb hc hcc
      obtain ⟨c1, c2, k1, k2⟩ := HCW.out wr HB.out
      go_upto_region 6 with fail
      go_quiet (fail)
      generalize hwA : wr.drewN nq = wA
      have HOA : Hid (OwnRN wB.heap.size wA (.slice oa out.length oc) out) := by rw [← hwA]; exact HO.out
      have HBA : Hid (Below wB.heap.size wB wA) := by rw [← hwA]; exact Below.drewN HB.out _
      clear hwA c1 c2 k1 k2 HO HB
      by_cases he : xs = ns
      · have he' : (xs.toList == ns.toList) = true := by rw [he]; simp
        have hn : out ++ withGo (ns, nf) (l.drop (i + 1)) d = withR l (ns, nf) := by rw [← HW.out, HGD.out, if_pos he]
        have HN := Lib.hid hn
        clear hn
        simp only [he']
        clear he he'
        go_wp2_with fail
        go_roundw
        case rel => exact ⟨i + 1, out, d, by omega, by go_num, rfl, HOA.out, by omega, HN.out, HBA.out⟩
        case measure => simp [intOf]; omega
      · have he' : (xs.toList == ns.toList) = false := str_ne' he
        simp only [he']
        obtain ⟨c1, c2, k1, k2⟩ := HCW.out wA HBA.out
        cases d
        · go_upto_region 7 with fail
          go_quiet (fail)
          generalize hwC : wA.drewN nq = wC
          have HOC : Hid (OwnRN wB.heap.size wC (.slice oa out.length oc) out) := by rw [← hwC]; exact HOA.out
          have HBC : Hid (Below wB.heap.size wB wC) := by rw [← hwC]; exact Below.drewN HBA.out _
          clear hwC HOA HBA c1 c2 k1 k2
          obtain ⟨c1, c2, k1, k2⟩ := HCW.out wC HBC.out
          by_cases hless : Op.bytesLess ns.toList xs.toList = true
          · have hn : (out ++ [(ns, nf)]) ++ [(xs, xf)] ++ withGo (ns, nf) (l.drop (i + 1)) true = withR l (ns, nf) := by rw [← HW.out, HGD.out, if_neg he, if_pos ⟨rfl, hless⟩]; simp
            have HN := Lib.hid hn
            simp only [hless]
            clear he he' hn hless
            obtain ⟨hla, hlb⟩ := HOC.out.laid (ns, nf)
            have HLA := Lib.hid hla
            have HLB := Lib.hid hlb
            have hbs : wB.heap.size ≤ (wC.alloc (.cells #[.string ns, .int .i64 nf] 133)).heap.size := by have := HBC.out.size; simp; omega
            clear hla hlb
            go_wp2_with (with_reducible refine wpList_append_own _ rfl (.tmp 36) (.tmp 38) 30 rfl wB.heap.size 133 i0 (.agg #[.string ⟨#[]⟩, .int .i64 0]) 2 24 Tryz.underlying30 HI0.out HZ0.out HZ1.out HZ2.out rfl (by decide) (.slice oa out.length oc) out.length (flatRN out) ?_ HLA.out ⟨wC.heap.size, 0, none⟩ 1 1 [.string ns, .int .i64 nf] ?_ rfl HLB.out ?_ ?_ ?_ hbs ?_)
            case refine_3 => exact ⟨rfl, rfl⟩
            case refine_4 => unfold maxLen; have := HLEN.out; omega
            case refine_5 => have := HLEN.out; omega
            intro vD wD hown2 hg2 _
            have hOD := OwnRN.snoc (x := (ns, nf)) hown2
            obtain ⟨da, dc, rfl⟩ := hOD.slice
            have HBD : Hid (Below wB.heap.size wB wD) := ((HBC.out.alloc HBC.out.size _).grown hg2 hbs HOC.out.own)
            have HOD := Lib.hid hOD
            clear hown2 hg2 hOD c1 c2 k1 k2 hbs HLA HLB HOC HBC
            obtain ⟨R, hR⟩ : ∃ R : List RN, R = out ++ [(ns, nf)] := ⟨_, rfl⟩
            have HRL := Lib.hid (show R.length ≤ 20001 ∧ R.length = out.length + 1 by rw [hR]; have := HLEN.out; simp; omega)
            have HNR : Hid (R ++ [(xs, xf)] ++ withGo (ns, nf) (l.drop (i + 1)) true = withR l (ns, nf)) := by rw [hR]; exact HN.out
            have HOR : Hid (OwnRN wB.heap.size wD (.slice da R.length dc) R) := by rw [hR]; exact HOD.out
            rw [← hR]
            clear hR HOD HN
            obtain ⟨c1, c2, k1, k2⟩ := HCW.out wD HBD.out
            obtain ⟨hla, hlb⟩ := HOR.out.laid (xs, xf)
            have HLA := Lib.hid hla
            have HLB := Lib.hid hlb
            have hbs : wB.heap.size ≤ (wD.alloc (.cells #[.string xs, .int .i64 xf] 133)).heap.size := by have := HBD.out.size; simp; omega
            clear hla hlb
            go_wp2_with (with_reducible refine wpList_append_own _ rfl (.tmp 40) (.tmp 45) 30 rfl wB.heap.size 133 i0 (.agg #[.string ⟨#[]⟩, .int .i64 0]) 2 24 Tryz.underlying30 HI0.out HZ0.out HZ1.out HZ2.out rfl (by decide) (.slice da R.length dc) R.length (flatRN R) ?_ HLA.out ⟨wD.heap.size, 0, none⟩ 1 1 [.string xs, .int .i64 xf] ?_ rfl HLB.out ?_ ?_ ?_ hbs ?_)
            case refine_3 => exact ⟨rfl, rfl⟩
            case refine_4 => unfold maxLen; have := HRL.out; omega
            case refine_5 => have := HRL.out; omega
            intro vE wE hown2 hg2 _
            have hOE := OwnRN.snoc (x := (xs, xf)) hown2
            have HBE : Hid (Below wB.heap.size wB wE) := ((HBD.out.alloc HBD.out.size _).grown hg2 hbs HOR.out.own)
            have HOE := Lib.hid hOE
            clear hown2 hg2 hOE c1 c2 k1 k2 hbs HLA HLB HOR HBD
            go_wp2_with fail
            go_roundw
            case rel => exact ⟨i + 1, R ++ [(xs, xf)], true, by omega, by go_num, rfl, HOE.out, by have := HRL.out.2; simp; omega, HNR.out, HBE.out⟩
            case measure => simp [intOf]; omega
          · have hless' : Op.bytesLess ns.toList xs.toList = false := by simpa using hless
            have hn : out ++ [(xs, xf)] ++ withGo (ns, nf) (l.drop (i + 1)) false = withR l (ns, nf) := by rw [← HW.out, HGD.out, if_neg he, if_neg (fun h => hless h.2)]; simp
            have HN := Lib.hid hn
            simp only [hless']
            clear he he' hn hless hless'
            obtain ⟨hla, hlb⟩ := HOC.out.laid (xs, xf)
            have HLA := Lib.hid hla
            have HLB := Lib.hid hlb
            have hbs : wB.heap.size ≤ (wC.alloc (.cells #[.string xs, .int .i64 xf] 133)).heap.size := by have := HBC.out.size; simp; omega
            clear hla hlb
            go_wp2_with (with_reducible refine wpList_append_own _ rfl (.tmp 40) (.tmp 45) 30 rfl wB.heap.size 133 i0 (.agg #[.string ⟨#[]⟩, .int .i64 0]) 2 24 Tryz.underlying30 HI0.out HZ0.out HZ1.out HZ2.out rfl (by decide) (.slice oa out.length oc) out.length (flatRN out) ?_ HLA.out ⟨wC.heap.size, 0, none⟩ 1 1 [.string xs, .int .i64 xf] ?_ rfl HLB.out ?_ ?_ ?_ hbs ?_)
            case refine_3 => exact ⟨rfl, rfl⟩
            case refine_4 => unfold maxLen; have := HLEN.out; omega
            case refine_5 => have := HLEN.out; omega
            intro vE wE hown2 hg2 _
            have hOE := OwnRN.snoc (x := (xs, xf)) hown2
            have HBE : Hid (Below wB.heap.size wB wE) := ((HBC.out.alloc HBC.out.size _).grown hg2 hbs HOC.out.own)
            have HOE := Lib.hid hOE
            clear hown2 hg2 hOE c1 c2 k1 k2 hbs HLA HLB HOC HBC
            go_wp2_with fail
            go_roundw
            case rel => exact ⟨i + 1, out ++ [(xs, xf)], false, by omega, by go_num, rfl, HOE.out, by simp; omega, HN.out, HBE.out⟩
            case measure => simp [intOf]; omega
        · have hn : out ++ [(xs, xf)] ++ withGo (ns, nf) (l.drop (i + 1)) true = withR l (ns, nf) := by rw [← HW.out, HGD.out, if_neg he, if_neg (fun h => Bool.noConfusion h.1)]; simp
          have HN := Lib.hid hn
          clear he he' hn
          go_upto_region 7 with fail
          go_quiet (fail)
          generalize hwC : wA.drewN nq = wC
          have HOC : Hid (OwnRN wB.heap.size wC (.slice oa out.length oc) out) := by rw [← hwC]; exact HOA.out
          have HBC : Hid (Below wB.heap.size wB wC) := by rw [← hwC]; exact Below.drewN HBA.out _
          clear hwC HOA HBA c1 c2 k1 k2
          obtain ⟨c1, c2, k1, k2⟩ := HCW.out wC HBC.out
          obtain ⟨hla, hlb⟩ := HOC.out.laid (xs, xf)
          have HLA := Lib.hid hla
          have HLB := Lib.hid hlb
          have hbs : wB.heap.size ≤ (wC.alloc (.cells #[.string xs, .int .i64 xf] 133)).heap.size := by have := HBC.out.size; simp; omega
          clear hla hlb
          go_wp2_with (with_reducible refine wpList_append_own _ rfl (.tmp 40) (.tmp 45) 30 rfl wB.heap.size 133 i0 (.agg #[.string ⟨#[]⟩, .int .i64 0]) 2 24 Tryz.underlying30 HI0.out HZ0.out HZ1.out HZ2.out rfl (by decide) (.slice oa out.length oc) out.length (flatRN out) ?_ HLA.out ⟨wC.heap.size, 0, none⟩ 1 1 [.string xs, .int .i64 xf] ?_ rfl HLB.out ?_ ?_ ?_ hbs ?_)
          case refine_3 => exact ⟨rfl, rfl⟩
          case refine_4 => unfold maxLen; have := HLEN.out; omega
          case refine_5 => have := HLEN.out; omega
          intro vE wE hown2 hg2 _
          have hOE := OwnRN.snoc (x := (xs, xf)) hown2
          have HBE : Hid (Below wB.heap.size wB wE) := ((HBC.out.alloc HBC.out.size _).grown hg2 hbs HOC.out.own)
          have HOE := Lib.hid hOE
          clear hown2 hg2 hOE c1 c2 k1 k2 hbs HLA HLB HOC HBC
          go_wp2_with fail
          go_roundw
          case rel => exact ⟨i + 1, out ++ [(xs, xf)], true, by omega, by go_num, rfl, HOE.out, by simp; omega, HN.out, HBE.out⟩
          case measure => simp [intOf]; omega
    · have li : ¬ ((i : Int) < l.length) := by omega
      have hwl : out ++ withGo (ns, nf) [] d = withR l (ns, nf) := by rw [← HW.out, List.drop_of_length_le (by omega)]
      have HWL := Lib.hid hwl
      have HLEN := Lib.hid (show out.length ≤ 20000 by omega)
      have k1 : wr.cell? ⟨w.heap.size, 0, none⟩ = some (.string ns) := by rw [World.cell?_of_block (w := wB) (HB.out.block w.heap.size HL0.out)]; exact HKB.out.cell rfl
      have k2 : wr.cell? ⟨w.heap.size, 1, none⟩ = some (.int .i64 nf) := by rw [World.cell?_of_block (w := wB) (HB.out.block w.heap.size HL0.out)]; exact HKB.out.cell rfl
      clear hwl hol hi
      cases d
      · have HN : Hid (out ++ [(ns, nf)] = withR l (ns, nf)) := HWL.out
        obtain ⟨hla, hlb⟩ := HO.out.laid (ns, nf)
        have HLA := Lib.hid hla
        have HLB := Lib.hid hlb
        have hbs : wB.heap.size ≤ (wr.alloc (.cells #[.string ns, .int .i64 nf] 133)).heap.size := by have := HB.out.size; simp; omega
        clear hla hlb
        go_wp2_with (with_reducible refine wpList_append_own _ rfl (.tmp 50) (.tmp 52) 30 rfl wB.heap.size 133 i0 (.agg #[.string ⟨#[]⟩, .int .i64 0]) 2 24 Tryz.underlying30 HI0.out HZ0.out HZ1.out HZ2.out rfl (by decide) (.slice oa out.length oc) out.length (flatRN out) ?_ HLA.out ⟨wr.heap.size, 0, none⟩ 1 1 [.string ns, .int .i64 nf] ?_ rfl HLB.out ?_ ?_ ?_ hbs ?_)
        case refine_3 => exact ⟨rfl, rfl⟩
        case refine_4 => unfold maxLen; have := HLEN.out; omega
        case refine_5 => have := HLEN.out; omega
        intro vE wE hown2 hg2 _
        have hOE := OwnRN.snoc (x := (ns, nf)) hown2
        rw [HN.out] at hOE
        have HBE : Hid (Below wB.heap.size wB wE) := ((HB.out.alloc HB.out.size _).grown hg2 hbs HO.out.own)
        have HOE := Lib.hid hOE
        clear hown2 hg2 hOE k1 k2 hbs HLA HLB
        go_wp2_with fail
        go_ret
        exact ⟨_, rfl, OwnRN.lower HOE.out (Nat.le_of_lt HL0.out), HBB.out.trans (HBE.out.mono (Nat.le_of_lt HL0.out))⟩
      · have HN : Hid (out = withR l (ns, nf)) := by rw [← HWL.out]; show _ = out ++ []; simp
        go_wp2_with fail
        go_ret
        exact ⟨_, rfl, OwnRN.lower (by rw [← HN.out]; exact HO.out) (Nat.le_of_lt HL0.out), HBB.out.trans (HB.out.mono (Nat.le_of_lt HL0.out))⟩
end Go.Proofs.YtigbgajelkknbaaGreatDoor
namespace Go.Proofs.YtigbgajelkknbaaGreatDoor
open Go.RowKit
set_option maxRecDepth 100000

/-- The value v is a slice of these numbers, wherever; it has room for them. -/
def RPlan (w : World) (v : Value) (p : List Int) : Prop :=
  (v = .slice none 0 0 ∧ p = []) ∨ (∃ a, v = .slice (some a) 0 0 ∧ p = []) ∨ ∃ pb po cap, v = .slice (some ⟨pb, po, none⟩) p.length cap ∧ p.length ≤ cap ∧ pb < w.heap.size ∧ w.rangeAt pb po (p.map (Value.int .i64))
theorem RPlan.slice {w : World} {v : Value} {p : List Int} (h : RPlan w v p) : ∃ a c, v = .slice a p.length c := by
  rcases h with ⟨rfl, rfl⟩ | ⟨a, rfl, rfl⟩ | ⟨pb, po, cap, rfl, _⟩
  · exact ⟨_, _, rfl⟩
  · exact ⟨_, _, rfl⟩
  · exact ⟨_, _, rfl⟩
theorem RPlan.below {w w' : World} {v : Value} {p : List Int} (h : RPlan w v p) (hb : Below w.heap.size w w') : RPlan w' v p := by
  rcases h with h | h | ⟨pb, po, cap, rfl, h2, h3, h4⟩
  · exact .inl h
  · exact .inr (.inl h)
  · exact .inr (.inr ⟨pb, po, cap, rfl, h2, Nat.lt_of_lt_of_le h3 hb.size, fun j u hu => by rw [World.cell?_of_block (w := w) (hb.block pb h3)]; exact h4 j u hu⟩)
theorem RPlan.tail {w : World} {pb po cap : Nat} {k : Int} {p : List Int} (h2 : (k :: p).length ≤ cap) (h3 : pb < w.heap.size) (h4 : w.rangeAt pb po ((k :: p).map (Value.int .i64))) {po' cap' : Nat} (h : p = [] ∧ po' = po ∧ cap' = 0 ∨ po' = po + 1 ∧ cap' = cap - 1) :
    RPlan w (.slice (some ⟨pb, po', none⟩) p.length cap') p := by
  rcases h with ⟨rfl, rfl, rfl⟩ | ⟨rfl, rfl⟩
  · exact .inr (.inl ⟨_, rfl, rfl⟩)
  · refine .inr (.inr ⟨pb, po + 1, cap - 1, rfl, by simp at h2; omega, h3, fun j u hu => ?_⟩)
    have := h4 (j + 1) u (by simpa using hu)
    rwa [show po + (j + 1) = po + 1 + j by omega] at this
/-- A file system of the reference, as a value. -/
def fsV (room : Int) (f d s c : Value) (steps left : Int) (p : Value) : Value := .agg #[.int .i64 room, f, d, s, c, .int .i64 steps, .int .i64 left, p]
/-- Its cells. -/
def fsC (room : Int) (f d s c : Value) (steps left : Int) (p : Value) : List Value := [.int .i64 room, f, d, s, c, .int .i64 steps, .int .i64 left, p]
/-- What 'step' tells of a number that was planned. -/
def codeR (k : Int) : Int := if k = 0 then 0 else if k = 2 then 21 else 20
def howR (p : List Int) : Int := p.headD 0
/-- Behind a step: left, steps, plan, how, the error. -/
def leftR (left : Int) : Int := if left > 0 then left - 1 else left
set_option maxRecDepth 100000 in
set_option maxHeartbeats 2000000 in
theorem refStep_dead (room steps : Int) (fa : Option Addr) (fn fc : Nat) (da : Option Addr) (dn dc : Nat) (sa : Option Addr) (sn sc : Nat) (ca : Option Addr) (cn cc : Nat) (pa : Option Addr) (pn pc : Nat) (w : World) :
    Calls Tryz.prog 111 #[fsV room (.slice fa fn fc) (.slice da dn dc) (.slice sa sn sc) (.slice ca cn cc) steps 0 (.slice pa pn pc)] w fun e w' =>
      e = .returned (.tuple #[fsV room (.slice fa fn fc) (.slice da dn dc) (.slice sa sn sc) (.slice ca cn cc) steps 0 (.slice pa pn pc), .int .i64 0, .int .i64 22]) ∧ Below w.heap.size w w' := by
  unfold fsV
  go_enter Tryz.func111, Tryz.ntmps111
  go_wp2_with fail
  refine bodyPost_ret (v := .tuple #[.agg #[.int .i64 room, .slice fa fn fc, .slice da dn dc, .slice sa sn sc, .slice ca cn cc, .int .i64 steps, .int .i64 0, .slice pa pn pc], .int .i64 0, .int .i64 22]) (by simp [results, Tryz.results111, go_sem]) rfl ⟨rfl, ?_⟩
  exact ((Below.refl _ _).alloc (Nat.le_refl _) _).alloc (by simp) _
set_option maxRecDepth 100000 in
set_option maxHeartbeats 2000000 in
theorem refStep_any (room steps left : Int) (fa : Option Addr) (fn fc : Nat) (da : Option Addr) (dn dc : Nat) (sa : Option Addr) (sn sc : Nat) (ca : Option Addr) (cn cc : Nat) (pv : Value) (p : List Int) (w : World) (hp : RPlan w pv p) (hpl : p.length < 4611686018427387904)
    (hs : 0 ≤ steps ∧ steps < 4611686018427387904) (hl : left ≠ 0) (hlb : -1 ≤ left ∧ left ≤ 9223372036854775807) :
    Calls Tryz.prog 111 #[fsV room (.slice fa fn fc) (.slice da dn dc) (.slice sa sn sc) (.slice ca cn cc) steps left pv] w fun e w' =>
      ∃ pv', e = .returned (.tuple #[fsV room (.slice fa fn fc) (.slice da dn dc) (.slice sa sn sc) (.slice ca cn cc) (steps + 1) (leftR left) pv', .int .i64 (howR p), .int .i64 (codeR (howR p))]) ∧ RPlan w pv' p.tail ∧ (∀ j, Live pv' j → Live pv j) ∧ Below w.heap.size w w' := by
  unfold fsV
  have hst : wrap64 (steps + 1) = steps + 1 := by unfold wrap64; omega
  have hlt : wrap64 (left - 1) = left - 1 := by unfold wrap64; omega
  rcases p with _ | ⟨k, p⟩
  · obtain ⟨pa, pc, rfl⟩ := hp.slice
    have HP := Lib.hid hp
    clear hp
    have HLR1 : Hid (0 < left → leftR left = left - 1) := fun h => if_pos h
    have HLR2 : Hid (¬ 0 < left → leftR left = left) := fun h => if_neg h
    go_enter Tryz.func111, Tryz.ntmps111
    by_cases hpos : 0 < left
    · go_wp2_with fail
      refine bodyPost_ret (v := .tuple #[.agg #[.int .i64 room, .slice fa fn fc, .slice da dn dc, .slice sa sn sc, .slice ca cn cc, .int .i64 (steps + 1), .int .i64 (left - 1), .slice pa 0 pc], .int .i64 0, .int .i64 0]) (by simp [results, Tryz.results111, go_sem]) rfl ⟨.slice pa 0 pc, by rw [HLR1.out hpos]; rfl, HP.out, fun _ h => h, ?_⟩
      exact ((Below.refl _ _).alloc (Nat.le_refl _) _).alloc (by simp) _
    · go_wp2_with fail
      refine bodyPost_ret (v := .tuple #[.agg #[.int .i64 room, .slice fa fn fc, .slice da dn dc, .slice sa sn sc, .slice ca cn cc, .int .i64 (steps + 1), .int .i64 left, .slice pa 0 pc], .int .i64 0, .int .i64 0]) (by simp [results, Tryz.results111, go_sem]) rfl ⟨.slice pa 0 pc, by rw [HLR2.out hpos]; rfl, HP.out, fun _ h => h, ?_⟩
      exact ((Below.refl _ _).alloc (Nat.le_refl _) _).alloc (by simp) _
  · rcases hp with ⟨_, h⟩ | ⟨_, _, h⟩ | ⟨pb, po, cap, rfl, hcap, hpb, hr⟩
    · cases h
    · cases h
    have c : w.cell? ⟨pb, po, none⟩ = some (.int .i64 k) := hr 0 (.int .i64 k) rfl
    have cA : ∀ A B, ((w.alloc A).alloc B).cell? ⟨pb, po, none⟩ = some (.int .i64 k) := fun A B => by rw [World.cell?_of_block (w := w) ((((Below.refl _ _).alloc (Nat.le_refl _) A).alloc (by simp) B).block pb hpb)]; exact c
    have cB : ∀ A B, ((w.alloc A).alloc B).cell? ⟨pb, po + 0, none⟩ = some (.int .i64 k) := cA
    clear c
    have HLR1 : Hid (0 < left → leftR left = left - 1) := fun h => if_pos h
    have HLR2 : Hid (¬ 0 < left → leftR left = left) := fun h => if_neg h
    have HK3 : Hid (¬ k = 0 → ¬ k = 2 → codeR k = 20) := fun h1 h2 => by show codeR k = 20; unfold codeR; rw [if_neg h1, if_neg h2]
    have hcap' : p.length + 1 ≤ cap := by simpa using hcap
    simp only [List.length_cons] at hpl
    by_cases h1 : cap = 1
    · obtain rfl : p = [] := List.length_eq_zero_iff.1 (by omega)
      subst h1
      have HT := Lib.hid (RPlan.tail (po' := po) (cap' := 0) hcap hpb hr (.inl ⟨rfl, rfl, rfl⟩))
      have HLV : Hid (∀ j, Live (.slice (some ⟨pb, po, none⟩) 0 0) j → Live (.slice (some ⟨pb, po, none⟩) 1 1) j) := fun j h => absurd rfl (h.2 _)
      clear hcap hpb hr hcap'
      go_enter Tryz.func111, Tryz.ntmps111
      by_cases hpos : 0 < left
      · by_cases k0 : k = 0
        · subst k0
          go_wp2_with fail
          refine bodyPost_ret (v := .tuple #[.agg #[.int .i64 room, .slice fa fn fc, .slice da dn dc, .slice sa sn sc, .slice ca cn cc, .int .i64 (steps + 1), .int .i64 (left - 1), (.slice (some ⟨pb, po, none⟩) 0 0)], .int .i64 0, .int .i64 0]) (by simp [results, Tryz.results111, go_sem]) rfl ⟨(.slice (some ⟨pb, po, none⟩) 0 0), by rw [HLR1.out hpos]; rfl, HT.out, HLV.out, ?_⟩
          exact ((Below.refl _ _).alloc (Nat.le_refl _) _).alloc (by simp) _
        by_cases k2 : k = 2
        · subst k2
          go_wp2_with fail
          refine bodyPost_ret (v := .tuple #[.agg #[.int .i64 room, .slice fa fn fc, .slice da dn dc, .slice sa sn sc, .slice ca cn cc, .int .i64 (steps + 1), .int .i64 (left - 1), (.slice (some ⟨pb, po, none⟩) 0 0)], .int .i64 2, .int .i64 21]) (by simp [results, Tryz.results111, go_sem]) rfl ⟨(.slice (some ⟨pb, po, none⟩) 0 0), by rw [HLR1.out hpos]; rfl, HT.out, HLV.out, ?_⟩
          exact ((Below.refl _ _).alloc (Nat.le_refl _) _).alloc (by simp) _
        · go_wp2_with fail
          refine bodyPost_ret (v := .tuple #[.agg #[.int .i64 room, .slice fa fn fc, .slice da dn dc, .slice sa sn sc, .slice ca cn cc, .int .i64 (steps + 1), .int .i64 (left - 1), (.slice (some ⟨pb, po, none⟩) 0 0)], .int .i64 k, .int .i64 20]) (by simp [results, Tryz.results111, go_sem]) rfl ⟨(.slice (some ⟨pb, po, none⟩) 0 0), by rw [HLR1.out hpos, (show ∀ q, howR (k :: q) = k from fun _ => rfl), HK3.out k0 k2], HT.out, HLV.out, ?_⟩
          exact ((Below.refl _ _).alloc (Nat.le_refl _) _).alloc (by simp) _
      · by_cases k0 : k = 0
        · subst k0
          go_wp2_with fail
          refine bodyPost_ret (v := .tuple #[.agg #[.int .i64 room, .slice fa fn fc, .slice da dn dc, .slice sa sn sc, .slice ca cn cc, .int .i64 (steps + 1), .int .i64 left, (.slice (some ⟨pb, po, none⟩) 0 0)], .int .i64 0, .int .i64 0]) (by simp [results, Tryz.results111, go_sem]) rfl ⟨(.slice (some ⟨pb, po, none⟩) 0 0), by rw [HLR2.out hpos]; rfl, HT.out, HLV.out, ?_⟩
          exact ((Below.refl _ _).alloc (Nat.le_refl _) _).alloc (by simp) _
        by_cases k2 : k = 2
        · subst k2
          go_wp2_with fail
          refine bodyPost_ret (v := .tuple #[.agg #[.int .i64 room, .slice fa fn fc, .slice da dn dc, .slice sa sn sc, .slice ca cn cc, .int .i64 (steps + 1), .int .i64 left, (.slice (some ⟨pb, po, none⟩) 0 0)], .int .i64 2, .int .i64 21]) (by simp [results, Tryz.results111, go_sem]) rfl ⟨(.slice (some ⟨pb, po, none⟩) 0 0), by rw [HLR2.out hpos]; rfl, HT.out, HLV.out, ?_⟩
          exact ((Below.refl _ _).alloc (Nat.le_refl _) _).alloc (by simp) _
        · go_wp2_with fail
          refine bodyPost_ret (v := .tuple #[.agg #[.int .i64 room, .slice fa fn fc, .slice da dn dc, .slice sa sn sc, .slice ca cn cc, .int .i64 (steps + 1), .int .i64 left, (.slice (some ⟨pb, po, none⟩) 0 0)], .int .i64 k, .int .i64 20]) (by simp [results, Tryz.results111, go_sem]) rfl ⟨(.slice (some ⟨pb, po, none⟩) 0 0), by rw [HLR2.out hpos, (show ∀ q, howR (k :: q) = k from fun _ => rfl), HK3.out k0 k2], HT.out, HLV.out, ?_⟩
          exact ((Below.refl _ _).alloc (Nat.le_refl _) _).alloc (by simp) _
    · have HT := Lib.hid (RPlan.tail (po' := po + 1) (cap' := cap - 1) hcap hpb hr (.inr ⟨rfl, rfl⟩))
      have HLV : Hid (∀ j, Live (.slice (some ⟨pb, po + 1, none⟩) p.length (cap - 1)) j → Live (.slice (some ⟨pb, po, none⟩) (k :: p).length cap) j) := fun j h => ⟨h.1, fun a e => by injection e with _ e _; cases e⟩
      clear hcap hpb hr
      go_enter Tryz.func111, Tryz.ntmps111
      by_cases hpos : 0 < left
      · by_cases k0 : k = 0
        · subst k0
          go_wp2_with fail
          refine bodyPost_ret (v := .tuple #[.agg #[.int .i64 room, .slice fa fn fc, .slice da dn dc, .slice sa sn sc, .slice ca cn cc, .int .i64 (steps + 1), .int .i64 (left - 1), (.slice (some ⟨pb, po + 1, none⟩) p.length (cap - 1))], .int .i64 0, .int .i64 0]) (by simp [results, Tryz.results111, go_sem]) rfl ⟨(.slice (some ⟨pb, po + 1, none⟩) p.length (cap - 1)), by rw [HLR1.out hpos]; rfl, HT.out, HLV.out, ?_⟩
          exact ((Below.refl _ _).alloc (Nat.le_refl _) _).alloc (by simp) _
        by_cases k2 : k = 2
        · subst k2
          go_wp2_with fail
          refine bodyPost_ret (v := .tuple #[.agg #[.int .i64 room, .slice fa fn fc, .slice da dn dc, .slice sa sn sc, .slice ca cn cc, .int .i64 (steps + 1), .int .i64 (left - 1), (.slice (some ⟨pb, po + 1, none⟩) p.length (cap - 1))], .int .i64 2, .int .i64 21]) (by simp [results, Tryz.results111, go_sem]) rfl ⟨(.slice (some ⟨pb, po + 1, none⟩) p.length (cap - 1)), by rw [HLR1.out hpos]; rfl, HT.out, HLV.out, ?_⟩
          exact ((Below.refl _ _).alloc (Nat.le_refl _) _).alloc (by simp) _
        · go_wp2_with fail
          refine bodyPost_ret (v := .tuple #[.agg #[.int .i64 room, .slice fa fn fc, .slice da dn dc, .slice sa sn sc, .slice ca cn cc, .int .i64 (steps + 1), .int .i64 (left - 1), (.slice (some ⟨pb, po + 1, none⟩) p.length (cap - 1))], .int .i64 k, .int .i64 20]) (by simp [results, Tryz.results111, go_sem]) rfl ⟨(.slice (some ⟨pb, po + 1, none⟩) p.length (cap - 1)), by rw [HLR1.out hpos, (show ∀ q, howR (k :: q) = k from fun _ => rfl), HK3.out k0 k2], HT.out, HLV.out, ?_⟩
          exact ((Below.refl _ _).alloc (Nat.le_refl _) _).alloc (by simp) _
      · by_cases k0 : k = 0
        · subst k0
          go_wp2_with fail
          refine bodyPost_ret (v := .tuple #[.agg #[.int .i64 room, .slice fa fn fc, .slice da dn dc, .slice sa sn sc, .slice ca cn cc, .int .i64 (steps + 1), .int .i64 left, (.slice (some ⟨pb, po + 1, none⟩) p.length (cap - 1))], .int .i64 0, .int .i64 0]) (by simp [results, Tryz.results111, go_sem]) rfl ⟨(.slice (some ⟨pb, po + 1, none⟩) p.length (cap - 1)), by rw [HLR2.out hpos]; rfl, HT.out, HLV.out, ?_⟩
          exact ((Below.refl _ _).alloc (Nat.le_refl _) _).alloc (by simp) _
        by_cases k2 : k = 2
        · subst k2
          go_wp2_with fail
          refine bodyPost_ret (v := .tuple #[.agg #[.int .i64 room, .slice fa fn fc, .slice da dn dc, .slice sa sn sc, .slice ca cn cc, .int .i64 (steps + 1), .int .i64 left, (.slice (some ⟨pb, po + 1, none⟩) p.length (cap - 1))], .int .i64 2, .int .i64 21]) (by simp [results, Tryz.results111, go_sem]) rfl ⟨(.slice (some ⟨pb, po + 1, none⟩) p.length (cap - 1)), by rw [HLR2.out hpos]; rfl, HT.out, HLV.out, ?_⟩
          exact ((Below.refl _ _).alloc (Nat.le_refl _) _).alloc (by simp) _
        · go_wp2_with fail
          refine bodyPost_ret (v := .tuple #[.agg #[.int .i64 room, .slice fa fn fc, .slice da dn dc, .slice sa sn sc, .slice ca cn cc, .int .i64 (steps + 1), .int .i64 left, (.slice (some ⟨pb, po + 1, none⟩) p.length (cap - 1))], .int .i64 k, .int .i64 20]) (by simp [results, Tryz.results111, go_sem]) rfl ⟨(.slice (some ⟨pb, po + 1, none⟩) p.length (cap - 1)), by rw [HLR2.out hpos, (show ∀ q, howR (k :: q) = k from fun _ => rfl), HK3.out k0 k2], HT.out, HLV.out, ?_⟩
          exact ((Below.refl _ _).alloc (Nat.le_refl _) _).alloc (by simp) _
end Go.Proofs.YtigbgajelkknbaaGreatDoor
namespace Go.Proofs.YtigbgajelkknbaaGreatDoor
open Go.RowKit
set_option maxRecDepth 100000

/-- What 'turn' makes of the names. -/
def turnR (d l : List RN) : List RN := l.foldl withR d
theorem withGo_length (n : RN) : ∀ (l : List RN) (d : Bool), (withGo n l d).length ≤ l.length + 1
  | [], d => by unfold withGo; split <;> simp
  | x :: l, d => by
    have h1 := withGo_length n l d
    have h2 : (withGo n l true).length ≤ l.length := by
      clear h1
      induction l with
      | nil => simp [withGo]
      | cons y l ih => unfold withGo; split; (simp; omega); split; (rename_i h; cases h.1); (simp; omega)
    unfold withGo
    split
    · simp; omega
    · split
      · simp; omega
      · simp; omega
theorem withR_length (l : List RN) (n : RN) : (withR l n).length ≤ l.length + 1 := withGo_length n l _
theorem turnR_take (d l : List RN) {i : Nat} (hi : i < l.length) : turnR d (l.take (i + 1)) = withR (turnR d (l.take i)) l[i] := by
  unfold turnR; rw [List.take_succ_eq_append_getElem hi, List.foldl_append]; rfl
theorem turnR_length (l : List RN) : ∀ d : List RN, (turnR d l).length ≤ d.length + l.length := by
  induction l with
  | nil => intro d; simp [turnR]
  | cons x l ih => intro d; have := ih (withR d x); have h := withR_length d x; show (turnR (withR d x) l).length ≤ _; simp; omega
theorem RNames.block {w : World} {v : Value} {l : List RN} (h : RNames w v l) : ∀ j, v.ownBlock = some j → j < w.heap.size := by
  rcases h with ⟨rfl, _⟩ | ⟨b, o, cap, rfl, h3, _⟩
  · intro j hj; cases hj
  · intro j hj; cases hj; exact h3
theorem RNames.setCell {w : World} {v : Value} {l : List RN} (h : RNames w v l) {a : Addr} (hne : ∀ j, v.ownBlock = some j → j ≠ a.block) (x : Value) : RNames (w.setCell a x) v l := by
  rcases h with h | ⟨b, o, cap, rfl, h3, h4⟩
  · exact .inl h
  · have hb : (w.setCell a x).heap[b]? = w.heap[b]? := heap_setCell_other w a b x (hne b rfl)
    refine .inr ⟨b, o, cap, rfl, ?_, fun j n hn => ⟨by rw [World.cell?_of_block (w := w) hb]; exact (h4 j n hn).1, by rw [World.cell?_of_block (w := w) hb]; exact (h4 j n hn).2⟩⟩
    have : w.heap[b]?.isSome := by simp [h3]
    rw [← hb] at this
    simpa using this
/-- A world with eight cells of a block turned. -/
def putFS (w : World) (g : Nat) (a0 a1 a2 a3 a4 a5 a6 a7 : Value) : World :=
  (((((((w.setCell ⟨g, 0, none⟩ a0).setCell ⟨g, 1, none⟩ a1).setCell ⟨g, 2, none⟩ a2).setCell ⟨g, 3, none⟩ a3).setCell ⟨g, 4, none⟩ a4).setCell ⟨g, 5, none⟩ a5).setCell ⟨g, 6, none⟩ a6).setCell ⟨g, 7, none⟩ a7
theorem putFS_blk {w : World} {g : Nat} {t : TypeId} {z0 z1 z2 z3 z4 z5 z6 z7 : Value} (h : Blk w g t [z0, z1, z2, z3, z4, z5, z6, z7]) (a0 a1 a2 a3 a4 a5 a6 a7 : Value) : Blk (putFS w g a0 a1 a2 a3 a4 a5 a6 a7) g t [a0, a1, a2, a3, a4, a5, a6, a7] :=
  (((((((h.set 0 a0).set 1 a1).set 2 a2).set 3 a3).set 4 a4).set 5 a5).set 6 a6).set 7 a7
theorem putFS_other {w : World} {g k : Nat} (h : k ≠ g) (a0 a1 a2 a3 a4 a5 a6 a7 : Value) : (putFS w g a0 a1 a2 a3 a4 a5 a6 a7).heap[k]? = w.heap[k]? := by
  unfold putFS
  rw [heap_setCell_other _ _ k _ h, heap_setCell_other _ _ k _ h, heap_setCell_other _ _ k _ h, heap_setCell_other _ _ k _ h, heap_setCell_other _ _ k _ h, heap_setCell_other _ _ k _ h, heap_setCell_other _ _ k _ h, heap_setCell_other _ _ k _ h]
theorem putFS_below {w a : World} {B g : Nat} (h : Below B a w) (hg : B ≤ g) (a0 a1 a2 a3 a4 a5 a6 a7 : Value) : Below B a (putFS w g a0 a1 a2 a3 a4 a5 a6 a7) :=
  (((((((h.setCell (p := ⟨g, 0, none⟩) hg a0).setCell (p := ⟨g, 1, none⟩) hg a1).setCell (p := ⟨g, 2, none⟩) hg a2).setCell (p := ⟨g, 3, none⟩) hg a3).setCell (p := ⟨g, 4, none⟩) hg a4).setCell (p := ⟨g, 5, none⟩) hg a5).setCell (p := ⟨g, 6, none⟩) hg a6).setCell (p := ⟨g, 7, none⟩) hg a7
/-- The value v is a slice of these values, each of one cell, wherever. -/
def RRow (w : World) (v : Value) (xs : List Value) : Prop :=
  (v = .slice none 0 0 ∧ xs = []) ∨ ∃ b o cap, v = .slice (some ⟨b, o, none⟩) xs.length cap ∧ b < w.heap.size ∧ w.rangeAt b o xs
theorem RRow.slice {w : World} {v : Value} {xs : List Value} (h : RRow w v xs) : ∃ a c, v = .slice a xs.length c := by
  rcases h with ⟨rfl, rfl⟩ | ⟨b, o, cap, rfl, _⟩
  · exact ⟨_, _, rfl⟩
  · exact ⟨_, _, rfl⟩
theorem RRow.to {w w' : World} {v : Value} {xs : List Value} (h : RRow w v xs) (hs : ∀ k, v.ownBlock = some k → w'.heap[k]? = w.heap[k]?) : RRow w' v xs := by
  rcases h with h | ⟨b, o, cap, rfl, h3, h4⟩
  · exact .inl h
  · have hb := hs b rfl
    refine .inr ⟨b, o, cap, rfl, ?_, fun j u hu => by rw [World.cell?_of_block (w := w) hb]; exact h4 j u hu⟩
    have : w.heap[b]?.isSome := by simp [h3]
    rw [← hb] at this
    simpa using this
theorem RNames.to {w w' : World} {v : Value} {l : List RN} (h : RNames w v l) (hs : ∀ k, v.ownBlock = some k → w'.heap[k]? = w.heap[k]?) : RNames w' v l := by
  rcases h with h | ⟨b, o, cap, rfl, h3, h4⟩
  · exact .inl h
  · have hb := hs b rfl
    refine .inr ⟨b, o, cap, rfl, ?_, fun j n hn => ⟨by rw [World.cell?_of_block (w := w) hb]; exact (h4 j n hn).1, by rw [World.cell?_of_block (w := w) hb]; exact (h4 j n hn).2⟩⟩
    have : w.heap[b]?.isSome := by simp [h3]
    rw [← hb] at this
    simpa using this
theorem RRow.below {w w' : World} {v : Value} {xs : List Value} (h : RRow w v xs) (hb : Below w.heap.size w w') : RRow w' v xs := by
  rcases h with h | ⟨b, o, cap, rfl, h3, h4⟩
  · exact .inl h
  · exact .inr ⟨b, o, cap, rfl, Nat.lt_of_lt_of_le h3 hb.size, fun j u hu => by rw [World.cell?_of_block (w := w) (hb.block b h3)]; exact h4 j u hu⟩
theorem rrowInfo : (Tryz.prog.info? 30).map (fun i => (i.zero, i.size, i.bytes)) = some (some (.slice none 0 0), 1, 24) := by kernel_rfl
/-- Slices of names in a row of one's own. -/
def OwnRR (base : Nat) (w : World) (v : Value) (xs : List Value) : Prop := w.ownsRow base 30 1 v xs.length xs
theorem OwnRR.slice {base : Nat} {w : World} {v : Value} {xs : List Value} (h : OwnRR base w v xs) : ∃ a c, v = .slice a xs.length c := by
  rcases h.2 with ⟨rfl, h0⟩ | ⟨x, cap, cur, rfl, _⟩
  · exact ⟨none, 0, by rw [h0]⟩
  · exact ⟨_, _, rfl⟩
theorem OwnRR.own {base : Nat} {w : World} {v : Value} {xs : List Value} (h : OwnRR base w v xs) : ∀ j, v.ownBlock = some j → base ≤ j := by
  rcases h.2 with ⟨rfl, _⟩ | ⟨x, cap, cur, rfl, hb, _⟩
  · intro j hj; cases hj
  · intro j hj; cases hj; exact hb
theorem OwnRR.row {base : Nat} {w : World} {v : Value} {xs : List Value} (h : OwnRR base w v xs) : RRow w v xs := by
  rcases h.2 with ⟨rfl, h0⟩ | ⟨x, cap, cur, rfl, hb, hh, h1, h2, h3, h4⟩
  · exact .inl ⟨rfl, List.length_eq_zero_iff.1 h0⟩
  · refine .inr ⟨x, 0, cap, rfl, (Array.getElem?_eq_some_iff.1 hh).1, fun j u hu => ?_⟩
    have hj : j < xs.length := (List.getElem?_eq_some_iff.1 hu).1
    rw [← h4, List.getElem?_take_of_lt (by omega)] at hu
    rw [cell_of_row w x (0 + j) cur _ _ hh, ← Array.getElem?_toList, Nat.zero_add]; exact hu
/-- An append of slices of names to what the call owns, from any slice of them, as a step of the walk. -/
theorem wpList_append_rr {ops : Array Oper} {rest : List Oper} {o : Oper} {a : Act} {w w0 : World} {Q : Exit → Act → World → Prop} (hgd : o.guard = none) (s x : Operand)
    (ho : o.op = .call { callee := .builtin .append, args := #[s, x], argTypes := #[31, 31] })
    (base : Nat) (v u : Value) (ys p : List Value) (hs : a.eval s = v) (hown : OwnRR base w v ys) (hx : a.eval x = u) (hp : RRow w0 u p) (hb : Below w0.heap.size w0 w) (h1 : ∀ u ∈ p, u.oneCell' = true) (hle : ys.length + p.length ≤ 1000000) (hbase : base ≤ w.heap.size)
    (h : ∀ v' w', OwnRR base w' v' (ys ++ p) → w.grownBy w' v.ownBlock → wpList Tryz.prog ops Q rest (a.put o.dst v') w') : wpList Tryz.prog ops Q (o :: rest) a w := by
  obtain ⟨i0, hi, hz0, hz1, hz2⟩ := info_parts rrowInfo
  rcases hp with ⟨rfl, rfl⟩ | ⟨pb, po, cap, rfl, h3, h4⟩
  · refine wpList_append_own_none hgd s x 31 ho base 30 i0 1 Tryz.underlying31 hi v ys.length ys hs hown hx ?_
    exact h v w (by rw [List.append_nil]; exact hown) ⟨rfl, rfl, rfl, Nat.le_refl _, fun _ _ _ => rfl⟩
  · refine wpList_append_own w hgd s x 31 ho base 30 i0 (.slice none 0 0) 1 24 Tryz.underlying31 hi hz0 hz1 hz2 rfl (by decide) v ys.length ys hs hown ⟨pb, po, none⟩ p.length cap p hx
      (by simp) (fun j u hu => by rw [Addr.add_mid, World.cell?_of_block (w := w0) (hb.block pb h3)]; exact h4 j u hu) h1 (by unfold maxLen; omega) (by omega) hbase ?_
    intro v' w' h1 h2 _
    refine h v' w' ?_ h2
    unfold OwnRR
    rw [List.length_append]; exact h1
set_option maxRecDepth 100000 in
set_option maxHeartbeats 2000000 in
theorem refTurn_any (room steps left : Int) (fa : Option Addr) (fn fc : Nat) (sa : Option Addr) (sn sc : Nat) (ca : Option Addr) (cn cc : Nat) (pa : Option Addr) (pn pc : Nat) (dv lv : Value) (d l : List RN) (w : World) (hd : RNames w dv d) (hl : RNames w lv l) (hdl : d.length + l.length < 10000) (cvs : List Value) (hc : RRow w (.slice ca cn cc) cvs) (hc1 : ∀ u ∈ cvs, u.oneCell' = true) (hcl : cvs.length < 10000) :
    Calls Tryz.prog 112 #[fsV room (.slice fa fn fc) dv (.slice sa sn sc) (.slice ca cn cc) steps left (.slice pa pn pc), lv] w fun e w' =>
      ∃ dv' cv', e = .returned (fsV room (.slice fa fn fc) dv' (.slice sa sn sc) cv' steps left (.slice pa pn pc)) ∧ RNames w' dv' (turnR d l) ∧ RRow w' cv' (cvs ++ [lv]) ∧ (∀ j, dv'.ownBlock = some j → dv.ownBlock = some j ∨ w.heap.size ≤ j) ∧ (∀ j, cv'.ownBlock = some j → w.heap.size ≤ j) ∧ Below w.heap.size w w' := by
  obtain ⟨da, dc, rfl⟩ := hd.slice
  obtain ⟨la, lc, rfl⟩ := hl.slice
  unfold fsV
  have HD := Lib.hid hd
  have HL := Lib.hid hl
  have HCV := Lib.hid hc
  have HC1 := Lib.hid hc1
  clear hd hl hc hc1
  go_enter Tryz.func112, Tryz.ntmps112
  go_wp2_with fail
  refine wp_world fun wB hwB => ?_
  have hBB : Below w.heap.size w wB := by rw [hwB]; exact ((Below.refl _ _).alloc (Nat.le_refl _) _).alloc (by simp) _
  have hK0 : Blk wB w.heap.size 33 (fsC room (.slice fa fn fc) (.slice da d.length dc) (.slice sa sn sc) (.slice ca cn cc) steps left (.slice pa pn pc)) := by rw [hwB]; exact (Blk.new w 33 (fsC room (.slice fa fn fc) (.slice da d.length dc) (.slice sa sn sc) (.slice ca cn cc) steps left (.slice pa pn pc))).alloc _
  have hK1 : Blk wB (w.heap.size + 1) 33 (fsC 0 (.slice none 0 0) (.slice none 0 0) (.slice none 0 0) (.slice none 0 0) 0 0 (.slice none 0 0)) := by
    rw [hwB]
    have := Blk.new (w.alloc (.cells #[.int .i64 room, .slice fa fn fc, .slice da d.length dc, .slice sa sn sc, .slice ca cn cc, .int .i64 steps, .int .i64 left, .slice pa pn pc] 33)) 33 (fsC 0 (.slice none 0 0) (.slice none 0 0) (.slice none 0 0) (.slice none 0 0) 0 0 (.slice none 0 0))
    rw [World.size_alloc] at this
    exact this
  have HBB := Lib.hid hBB
  have hDB := HD.out.below hBB
  have hLB := HL.out.below hBB
  have HLB := Lib.hid hLB
  have HAP : Hid (∀ j, ((Value.slice da d.length dc).ownBlock = some j ∨ w.heap.size + 2 ≤ j) → j ≠ w.heap.size ∧ j ≠ w.heap.size + 1) := fun j hj => by
    rcases hj with hj | hj
    · have := HD.out.block j hj; omega
    · omega
  have hd0 : ∀ j, (Value.slice da d.length dc).ownBlock = some j → (Value.slice da d.length dc).ownBlock = some j ∨ w.heap.size + 2 ≤ j := fun j hj => .inl hj
  clear hwB hLB
  go_loopw [8] (fun s8 wr => ∃ (i : Nat) (dv : Value), i ≤ l.length ∧ s8 = .int .i64 i ∧ RNames wr dv (turnR d (l.take i)) ∧ (∀ j, dv.ownBlock = some j → (Value.slice da d.length dc).ownBlock = some j ∨ w.heap.size + 2 ≤ j) ∧ Below w.heap.size w wr ∧
      Blk wr w.heap.size 33 (fsC room (.slice fa fn fc) dv (.slice sa sn sc) (.slice ca cn cc) steps left (.slice pa pn pc)) ∧ Blk wr (w.heap.size + 1) 33 (fsC 0 (.slice none 0 0) (.slice none 0 0) (.slice none 0 0) (.slice none 0 0) 0 0 (.slice none 0 0)))
    (fun s8 _ => l.length - (intOf s8).toNat)
  case atStart => exact ⟨0, _, Nat.zero_le _, rfl, hDB, hd0, hBB, hK0, hK1⟩
  case round =>
    clear hDB hd0 hBB hK0 hK1
    obtain ⟨i, dv, hi, rfl, hdv, hne, hBr, hk0, hk1⟩ := hrel
    obtain ⟨ga, gc, rfl⟩ := hdv.slice
    by_cases hlt : i < l.length
    · have li : (i : Int) < l.length := by omega
      have HLW := HL.out.below hBr
      rcases HLW with ⟨_, h0⟩ | ⟨b, o, cap, hv, hb, hc⟩
      · subst h0; simp at hlt
      cases hv
      obtain ⟨c1, c2⟩ := hc i _ (List.getElem?_eq_getElem hlt)
      have c3 := hk0.cell (i := 2) rfl
      have htk := turnR_take d l hlt
      have htl : (turnR d (l.take i)).length < 10000 := by have := turnR_length (l.take i) d; rw [List.length_take] at this; omega
      generalize l[i] = x at c1 c2 htk
      obtain ⟨xs, xf⟩ := x
      simp only at c1 c2
      have HT := Lib.hid htk
      have HBR := Lib.hid hBr
      have HK0 := Lib.hid hk0
      have HK1 := Lib.hid hk1
      have HDV := Lib.hid hdv
      have HTL := Lib.hid htl
      obtain ⟨T, hT⟩ : ∃ T, T = turnR d (l.take i) := ⟨_, rfl⟩
      rw [← hT] at c3 HK0 HT HDV HTL
      clear hc htk htl hne hBr hk0 hk1 hdv hT
      go_upto_region 4 with fail
      refine wp_region_quiet_tail 6 (by kernel_rfl) (by kernel_rfl) ?_
      simp only [List.take_succ_cons, List.take_zero, List.drop_succ_cons, List.drop_zero]
      repeat (go_big_quiet_step (fail))
      refine wpQuiet_nil ?_
      intro nq
      go_wp2_with fail
      refine (refWith_any _ T (xs, xf) (wr.drewN nq) (RNames.below HDV.out (Below.drewN (Below.refl _ wr) nq)) HTL.out).mono ?_; rintro e w2 ⟨v2, rfl, ho2, hb2⟩
      rw [← HT.out] at ho2
      have hb2' : Below wr.heap.size wr w2 := Below.trans (Below.drewN (Below.refl _ wr) nq) hb2
      obtain ⟨a2, q2, rfl⟩ := ho2.slice
      have hk0 := (show Blk w2 w.heap.size 33 _ from (hb2'.block _ HK0.out.lt).trans HK0.out)
      have hk1 := (show Blk w2 (w.heap.size + 1) 33 _ from (hb2'.block _ HK1.out.lt).trans HK1.out)
      have hn2 : ∀ j, (Value.slice a2 (turnR d (l.take (i + 1))).length q2).ownBlock = some j → (Value.slice da d.length dc).ownBlock = some j ∨ w.heap.size + 2 ≤ j := fun j hj => .inr (by
        have h1 := ho2.own j hj
        have h2 : wr.heap.size ≤ j := h1
        have := HK0.out.lt; have := HK1.out.lt; omega)
      have f2 := hk0.frozen 2
      have d2 := hk0.cell (i := 2) rfl
      have HS := Lib.hid (ho2.names.setCell (a := ⟨w.heap.size, 2, none⟩) (fun j hj => (HAP.out j (hn2 j hj)).1) (.slice a2 (turnR d (l.take (i + 1))).length q2))
      have HN2 := Lib.hid hn2
      have HB2 := Lib.hid ((HBR.out.trans (hb2'.mono HBR.out.size)).setCell (p := ⟨w.heap.size, 2, none⟩) (Nat.le_refl _) (.slice a2 (turnR d (l.take (i + 1))).length q2))
      have HE0 := Lib.hid (hk0.set 2 (.slice a2 (turnR d (l.take (i + 1))).length q2))
      have HE1 := Lib.hid (hk1.set_other (a := ⟨w.heap.size, 2, none⟩) (by simp) (.slice a2 (turnR d (l.take (i + 1))).length q2))
      clear ho2 hb2 hb2' hk0 hk1 hn2 c1 c2 c3
      go_wp2_with fail
      go_roundw
      case rel => exact ⟨i + 1, _, by omega, by go_num, HS.out, HN2.out, HB2.out, HE0.out, HE1.out⟩
      case measure => simp [intOf]; omega
    · have li : ¬ ((i : Int) < l.length) := by omega
      rw [List.take_of_length_le (show l.length ≤ i by omega)] at hdv hk0 hne
      obtain ⟨T, hT⟩ : ∃ T, T = turnR d l := ⟨_, rfl⟩
      rw [← hT] at hdv hk0 hne
      have c4 : ∀ A, (wr.alloc A).cell? ⟨w.heap.size, 4, none⟩ = some (.slice ca cn cc) := fun A => (hk0.alloc A).cell rfl
      have HK0 := Lib.hid hk0
      have HK1 := Lib.hid hk1
      have HDV := Lib.hid hdv
      have HBR := Lib.hid hBr
      have HNE := Lib.hid hne
      have HT := Lib.hid hT
      have hoE : OwnRR wr.heap.size (wr.alloc (.cells #[] 30)) (.slice (some ⟨wr.heap.size, 0, none⟩) 0 0) [] :=
        ⟨rfl, .inr ⟨wr.heap.size, 0, #[], rfl, Nat.le_refl _, heap_alloc_new wr _, Nat.le_refl _, by unfold maxLen; omega, rfl, rfl⟩⟩
      have HOE := Lib.hid hoE
      have HCL := Lib.hid hcl
      clear hk0 hk1 hdv hBr hne hT hoE hi hlt hcl hdl
      go_wp2_with (with_reducible refine wpList_append_rr rfl (.tmp 20) (.tmp 22) rfl wr.heap.size (.slice (some ⟨wr.heap.size, 0, none⟩) 0 0) (.slice ca cn cc) [] cvs ?_ HOE.out ?_ HCV.out ?_ HC1.out ?_ ?_ ?_)
      case refine_3 => exact (HBR.out).alloc HBR.out.size _
      case refine_4 => have := HCL.out; simp; omega
      intro v3 w3 ho3 hg3
      obtain ⟨a3, q3, rfl⟩ := ho3.slice
      have hb3 : Below wr.heap.size wr w3 := ((Below.refl _ _).alloc (Nat.le_refl _) _).grown hg3 (by simp) fun j hj => by cases hj; exact Nat.le_refl _
      have HB3 := Lib.hid hb3
      have HO3 := Lib.hid (show OwnRR wr.heap.size (w3.alloc (.cells #[.slice la l.length lc] 30)) (.slice a3 cvs.length q3) cvs from World.ownsRow.alloc ho3 _)
      have HR3 := Lib.hid (show RRow (w3.alloc (.cells #[.slice la l.length lc] 30)) (.slice (some ⟨w3.heap.size, 0, none⟩) 1 1) [.slice la l.length lc] from
        .inr ⟨w3.heap.size, 0, 1, rfl, by simp, (Blk.new w3 30 [.slice la l.length lc]).range 0 _ fun j v hv => by rw [Nat.zero_add]; exact hv⟩)
      clear c4 ho3 hg3 hb3
      go_wp2_with (with_reducible refine wpList_append_rr rfl (.tmp 23) (.tmp 25) rfl wr.heap.size (.slice a3 cvs.length q3) (.slice (some ⟨w3.heap.size, 0, none⟩) 1 1) cvs [.slice la l.length lc] ?_ HO3.out ?_ HR3.out ?_ ?_ ?_ ?_ ?_)
      case refine_1 => rfl
      case refine_2 => rfl
      case refine_3 => exact Below.refl _ _
      case refine_4 => intro u hu; simp at hu; subst hu; rfl
      case refine_5 => have := HCL.out; simp; omega
      case refine_6 => have := HB3.out.size; simp; omega
      intro v4 w4 ho4 hg4
      obtain ⟨ca4, hca4⟩ : ∃ n, n = (cvs ++ [Value.slice la l.length lc]).length := ⟨_, rfl⟩
      obtain ⟨a4, q4, hv4⟩ := ho4.slice
      rw [← hca4] at hv4
      subst hv4
      have hb4 : Below wr.heap.size wr w4 := (HB3.out.alloc HB3.out.size _).grown hg4 (by have := HB3.out.size; simp; omega) (fun j hj => HO3.out.own j hj)
      have hk0 := (show Blk w4 w.heap.size 33 _ from (hb4.block _ HK0.out.lt).trans HK0.out)
      have hk1 := (show Blk w4 (w.heap.size + 1) 33 _ from (hb4.block _ HK1.out.lt).trans HK1.out)
      have f4 := hk0.frozen 4
      have hne4 : ∀ j, (Value.slice a4 ca4 q4).ownBlock = some j → w.heap.size + 2 ≤ j := fun j hj => by have h1 := ho4.own j hj; have := HK0.out.lt; have := HK1.out.lt; omega
      have HO4 := Lib.hid ho4
      have HK4 := Lib.hid (hk0.set 4 (.slice a4 ca4 q4))
      have HK5 := Lib.hid (hk1.set_other (a := ⟨w.heap.size, 4, none⟩) (by simp) (.slice a4 ca4 q4))
      have HB4 := Lib.hid hb4
      have HN4 := Lib.hid hne4
      have d4 := hk0.cell (i := 4) rfl
      clear hg4 hb4 hk0 hk1 ho4 hca4 hne4 HO3 HR3 HB3
      go_upto_region 7 with fail
      generalize hw5 : w4.setCell ⟨w.heap.size, 4, none⟩ (.slice a4 ca4 q4) = w5
      have hk0 : Blk w5 w.heap.size 33 (fsC room (.slice fa fn fc) (.slice ga T.length gc) (.slice sa sn sc) (.slice a4 ca4 q4) steps left (.slice pa pn pc)) := by rw [← hw5]; exact HK4.out
      have hk1 : Blk w5 (w.heap.size + 1) 33 (fsC 0 (.slice none 0 0) (.slice none 0 0) (.slice none 0 0) (.slice none 0 0) 0 0 (.slice none 0 0)) := by rw [← hw5]; exact HK5.out
      have hdT : RNames w5 (.slice ga T.length gc) T := by rw [← hw5]; exact (HDV.out.below HB4.out).setCell (fun j hj => (HAP.out j (HNE.out j hj)).1) _
      have hcT : RRow w5 (.slice a4 ca4 q4) (cvs ++ [.slice la l.length lc]) := by rw [← hw5]; exact HO4.out.row.to (fun j hj => heap_setCell_other w4 _ j _ (show j ≠ w.heap.size by have := HN4.out j hj; omega))
      have hB5 : Below w.heap.size w w5 := by rw [← hw5]; exact (HBR.out.trans (HB4.out.mono HBR.out.size)).setCell (Nat.le_refl _) _
      have HDT := Lib.hid hdT
      have HCT := Lib.hid hcT
      have HB5 := Lib.hid hB5
      have HKR := Lib.hid hk1
      have x0 := hk0.cell (i := 0) rfl
      have x1 := hk0.cell (i := 1) rfl
      have x2 := hk0.cell (i := 2) rfl
      have x3 := hk0.cell (i := 3) rfl
      have x4 := hk0.cell (i := 4) rfl
      have x5 := hk0.cell (i := 5) rfl
      have x6 := hk0.cell (i := 6) rfl
      have x7 := hk0.cell (i := 7) rfl
      have y0 := hk1.frozen 0
      have y1 := hk1.frozen 1
      have y2 := hk1.frozen 2
      have y3 := hk1.frozen 3
      have y4 := hk1.frozen 4
      have y5 := hk1.frozen 5
      have y6 := hk1.frozen 6
      have y7 := hk1.frozen 7
      have z0 := hk1.cell (i := 0) rfl
      have z1 := hk1.cell (i := 1) rfl
      have z2 := hk1.cell (i := 2) rfl
      have z3 := hk1.cell (i := 3) rfl
      have z4 := hk1.cell (i := 4) rfl
      have z5 := hk1.cell (i := 5) rfl
      have z6 := hk1.cell (i := 6) rfl
      have z7 := hk1.cell (i := 7) rfl
      clear hw5 hk0 hk1 hdT hcT hB5 HK4 HK5 HDV HBR HB4 HO4 d4 f4 HK0 HK1
      go_wp2_with fail
      have hkF := putFS_blk HKR.out (.int .i64 room) (.slice fa fn fc) (.slice ga T.length gc) (.slice sa sn sc) (.slice a4 ca4 q4) (.int .i64 steps) (.int .i64 left) (.slice pa pn pc)
      have d0 := hkF.cell (i := 0) rfl
      have d1 := hkF.cell (i := 1) rfl
      have d2 := hkF.cell (i := 2) rfl
      have d3 := hkF.cell (i := 3) rfl
      have d4 := hkF.cell (i := 4) rfl
      have d5 := hkF.cell (i := 5) rfl
      have d6 := hkF.cell (i := 6) rfl
      have d7 := hkF.cell (i := 7) rfl
      unfold putFS at d0 d1 d2 d3 d4 d5 d6 d7
      clear hkF x0 x1 x2 x3 x4 x5 x6 x7 y0 y1 y2 y3 y4 y5 y6 y7 z0 z1 z2 z3 z4 z5 z6 z7
      refine bodyPost_ret (v := .agg #[.int .i64 room, .slice fa fn fc, .slice ga T.length gc, .slice sa sn sc, .slice a4 ca4 q4, .int .i64 steps, .int .i64 left, .slice pa pn pc]) (by simp [results, Tryz.results112, go_sem, d0, d1, d2, d3, d4, d5, d6, d7]) rfl ⟨.slice ga T.length gc, .slice a4 ca4 q4, rfl, ?_, ?_, fun j hj => (HNE.out j hj).imp id (fun h => by omega), fun j hj => by have := HN4.out j hj; omega, ?_⟩
      · rw [← HT.out]; exact HDT.out.to fun k hk => putFS_other (HAP.out k (HNE.out k hk)).2 _ _ _ _ _ _ _ _
      · exact HCT.out.to fun k hk => putFS_other (show k ≠ w.heap.size + 1 by have := HN4.out k hk; omega) _ _ _ _ _ _ _ _
      · exact putFS_below HB5.out (by omega) _ _ _ _ _ _ _ _
end Go.Proofs.YtigbgajelkknbaaGreatDoor
namespace Go.Proofs.YtigbgajelkknbaaGreatDoor
open Go.RowKit
set_option maxRecDepth 100000

/-- A file system of the reference. -/
structure RSt where
  room : Int
  files : List RN
  dir : List RN
  sure : List RN
  changes : List (List RN)
  steps : Int
  left : Int
  plan : List Int
/-- Its own block is of these. -/
def OwnIn (P : Nat → Prop) (v : Value) : Prop := ∀ k, v.ownBlock = some k → P k
/-- Its own block is of these, if it has room for a cell. -/
def OwnPl (P : Nat → Prop) (v : Value) : Prop := ∀ k, Live v k → P k
/-- Slices of names, one behind another, in blocks of P. -/
def ChOk (P : Nat → Prop) (w : World) (cvs : List Value) (cs : List (List RN)) : Prop := cvs.length = cs.length ∧ ∀ (i : Nat) (c : List RN), cs[i]? = some c → ∃ u, cvs[i]? = some u ∧ RNames w u c ∧ OwnIn P u
/-- The value v is that file system, in blocks of P. -/
def RFs (P : Nat → Prop) (w : World) (v : Value) (R : RSt) : Prop :=
  ∃ fv dv sv cv pv cvs, v = fsV R.room fv dv sv cv R.steps R.left pv ∧ RNames w fv R.files ∧ RNames w dv R.dir ∧ RNames w sv R.sure ∧ RRow w cv cvs ∧ ChOk P w cvs R.changes ∧ RPlan w pv R.plan ∧
    OwnIn P fv ∧ OwnIn P dv ∧ OwnIn P sv ∧ OwnIn P cv ∧ OwnPl P pv
/-- It is of a size that is gone through. -/
structure ROk (R : RSt) : Prop where
  dir : R.dir.length < 5000
  sure : R.sure.length < 5000
  files : R.files.length < 5000
  changes : R.changes.length < 5000
  each : ∀ c ∈ R.changes, c.length ≤ 2
  steps : 0 ≤ R.steps ∧ R.steps < 4611686018427387904
  left : -1 ≤ R.left ∧ R.left ≤ 9223372036854775807
  plan : R.plan.length < 1000
theorem RPlan.to {w w' : World} {v : Value} {p : List Int} (h : RPlan w v p) (hs : ∀ k, Live v k → w'.heap[k]? = w.heap[k]?) : RPlan w' v p := by
  rcases h with h | h | ⟨b, o, cap, rfl, h2, h3, h4⟩
  · exact .inl h
  · exact .inr (.inl h)
  by_cases hc : cap = 0
  · subst hc
    obtain rfl : p = [] := List.length_eq_zero_iff.1 (by omega)
    exact .inr (.inl ⟨_, rfl, rfl⟩)
  · have hb := hs b ⟨rfl, fun a e => by injection e with _ _ e; exact hc e⟩
    refine .inr (.inr ⟨b, o, cap, rfl, h2, ?_, fun j u hu => by rw [World.cell?_of_block (w := w) hb]; exact h4 j u hu⟩)
    have : w.heap[b]?.isSome := by simp [h3]
    rw [← hb] at this
    simpa using this
theorem RRow.block {w : World} {v : Value} {l : List Value} (h : RRow w v l) : ∀ j, v.ownBlock = some j → j < w.heap.size := by
  rcases h with ⟨rfl, _⟩ | ⟨b, o, cap, rfl, h3, _⟩
  · intro j hj; cases hj
  · intro j hj; cases hj; exact h3
theorem RPlan.block {w : World} {v : Value} {l : List Int} (h : RPlan w v l) : ∀ j, Live v j → j < w.heap.size := by
  rcases h with ⟨rfl, _⟩ | ⟨a, rfl, _⟩ | ⟨b, o, cap, rfl, _, h3, _⟩
  · intro j hj; cases hj.1
  · intro j hj; exact absurd rfl (hj.2 _)
  · intro j hj; cases hj.1; exact h3
section
variable {P Q : Nat → Prop} {w w' : World} {v : Value} {R : RSt} {cvs : List Value} {cs : List (List RN)}
theorem OwnIn.mono (h : OwnIn P v) (hq : ∀ k, P k → Q k) : OwnIn Q v := fun k hk => hq k (h k hk)
theorem OwnPl.mono (h : OwnPl P v) (hq : ∀ k, P k → Q k) : OwnPl Q v := fun k hk => hq k (h k hk)
theorem ChOk.one (h : ChOk P w cvs cs) : ∀ u ∈ cvs, u.oneCell' = true := by
  intro u hu
  obtain ⟨i, hi, rfl⟩ := List.getElem_of_mem hu
  obtain ⟨u', h1, h2, _⟩ := h.2 i _ (List.getElem?_eq_getElem (by rw [← h.1]; exact hi))
  rw [List.getElem?_eq_getElem hi] at h1
  obtain rfl := Option.some.inj h1
  obtain ⟨a, c, e⟩ := h2.slice
  rw [e]; rfl
theorem RFs.to (h : RFs P w v R) (hs : ∀ k, P k → w'.heap[k]? = w.heap[k]?) : RFs P w' v R := by
  obtain ⟨fv, dv, sv, cv, pv, cvs, h0, h1, h2, h3, h4, h5, h6, o1, o2, o3, o4, o5⟩ := h
  exact ⟨fv, dv, sv, cv, pv, cvs, h0, h1.to fun k hk => hs k (o1 k hk), h2.to fun k hk => hs k (o2 k hk), h3.to fun k hk => hs k (o3 k hk), h4.to fun k hk => hs k (o4 k hk),
    ⟨h5.1, fun i c hc => by obtain ⟨u, e1, e2, e3⟩ := h5.2 i c hc; exact ⟨u, e1, e2.to fun k hk => hs k (e3 k hk), e3⟩⟩, h6.to fun k hk => hs k (o5 k hk), o1, o2, o3, o4, o5⟩
theorem RFs.mono (h : RFs P w v R) (hq : ∀ k, P k → Q k) : RFs Q w v R := by
  obtain ⟨fv, dv, sv, cv, pv, cvs, h0, h1, h2, h3, h4, h5, h6, o1, o2, o3, o4, o5⟩ := h
  exact ⟨fv, dv, sv, cv, pv, cvs, h0, h1, h2, h3, h4, ⟨h5.1, fun i c hc => by obtain ⟨u, e1, e2, e3⟩ := h5.2 i c hc; exact ⟨u, e1, e2, e3.mono hq⟩⟩, h6, o1.mono hq, o2.mono hq, o3.mono hq, o4.mono hq, o5.mono hq⟩
theorem RFs.lt (h : RFs P w v R) : RFs (fun k => P k ∧ k < w.heap.size) w v R := by
  obtain ⟨fv, dv, sv, cv, pv, cvs, h0, h1, h2, h3, h4, h5, h6, o1, o2, o3, o4, o5⟩ := h
  exact ⟨fv, dv, sv, cv, pv, cvs, h0, h1, h2, h3, h4, ⟨h5.1, fun i c hc => by obtain ⟨u, e1, e2, e3⟩ := h5.2 i c hc; exact ⟨u, e1, e2, fun k hk => ⟨e3 k hk, e2.block k hk⟩⟩⟩, h6,
    fun k hk => ⟨o1 k hk, h1.block k hk⟩, fun k hk => ⟨o2 k hk, h2.block k hk⟩, fun k hk => ⟨o3 k hk, h3.block k hk⟩, fun k hk => ⟨o4 k hk, h4.block k hk⟩, fun k hk => ⟨o5 k hk, h6.block k hk⟩⟩
theorem RFs.below (h : RFs P w v R) (hb : Below w.heap.size w w') : RFs P w' v R :=
  (h.lt.to fun k hk => hb.block k hk.2).mono fun _ hk => hk.1
/-- Its parts are slices. -/
theorem RFs.parts (h : RFs P w v R) : ∃ (fa : Option Addr) (fc : Nat) (da : Option Addr) (dc : Nat) (sa : Option Addr) (sc : Nat) (ca : Option Addr) (cc : Nat) (pa : Option Addr) (pc : Nat) (cvs : List Value),
    v = .agg #[.int .i64 R.room, .slice fa R.files.length fc, .slice da R.dir.length dc, .slice sa R.sure.length sc, .slice ca R.changes.length cc, .int .i64 R.steps, .int .i64 R.left, .slice pa R.plan.length pc] ∧
    RNames w (.slice fa R.files.length fc) R.files ∧ RNames w (.slice da R.dir.length dc) R.dir ∧ RNames w (.slice sa R.sure.length sc) R.sure ∧ RRow w (.slice ca R.changes.length cc) cvs ∧ ChOk P w cvs R.changes ∧ RPlan w (.slice pa R.plan.length pc) R.plan ∧
    OwnIn P (.slice fa R.files.length fc) ∧ OwnIn P (.slice da R.dir.length dc) ∧ OwnIn P (.slice sa R.sure.length sc) ∧ OwnIn P (.slice ca R.changes.length cc) ∧ OwnPl P (.slice pa R.plan.length pc) := by
  obtain ⟨fv, dv, sv, cv, pv, cvs, h0, h1, h2, h3, h4, h5, h6, os⟩ := h
  obtain ⟨fa, fc, rfl⟩ := h1.slice
  obtain ⟨da, dc, rfl⟩ := h2.slice
  obtain ⟨sa, sc, rfl⟩ := h3.slice
  obtain ⟨ca, cc, rfl⟩ := h4.slice
  obtain ⟨pa, pc, rfl⟩ := h6.slice
  rw [h5.1] at h0 h4 os
  exact ⟨fa, fc, da, dc, sa, sc, ca, cc, pa, pc, cvs, h0, h1, h2, h3, h4, h5, h6, os⟩
theorem RFs.mk {fv dv sv cv pv : Value} (h1 : RNames w fv R.files) (h2 : RNames w dv R.dir) (h3 : RNames w sv R.sure) (h4 : RRow w cv cvs) (h5 : ChOk P w cvs R.changes) (h6 : RPlan w pv R.plan) (o1 : OwnIn P fv) (o2 : OwnIn P dv) (o3 : OwnIn P sv) (o4 : OwnIn P cv) (o5 : OwnPl P pv) :
    RFs P w (.agg #[.int .i64 R.room, fv, dv, sv, cv, .int .i64 R.steps, .int .i64 R.left, pv]) R := ⟨fv, dv, sv, cv, pv, cvs, rfl, h1, h2, h3, h4, h5, h6, o1, o2, o3, o4, o5⟩
end
/-- What 'step' makes of it; how; the error. -/
def stepR (R : RSt) : RSt × Int × Int :=
  if R.left = 0 then (R, 0, 22) else ({ R with steps := R.steps + 1, left := leftR R.left, plan := R.plan.tail }, howR R.plan, codeR (howR R.plan))
theorem refStepR {P : Nat → Prop} (v : Value) (R : RSt) (w : World) (h : RFs P w v R) (hk : ROk R) :
    Calls Tryz.prog 111 #[v] w fun e w' => ∃ v', e = .returned (.tuple #[v', .int .i64 (stepR R).2.1, .int .i64 (stepR R).2.2]) ∧ RFs P w v' (stepR R).1 ∧ Below w.heap.size w w' := by
  obtain ⟨fa, fc, da, dc, sa, sc, ca, cc, pa, pc, cvs, rfl, h1, h2, h3, h4, h5, h6, o1, o2, o3, o4, o5⟩ := h.parts
  by_cases hl : R.left = 0
  · have hs : stepR R = (R, 0, 22) := if_pos hl
    rw [hs, hl]
    refine (refStep_dead R.room R.steps fa _ fc da _ dc sa _ sc ca _ cc pa _ pc w).mono ?_
    rintro e w' ⟨he, hb⟩
    refine ⟨_, he, ?_, hb⟩
    rw [hl] at h
    exact h
  · have hs : stepR R = ({ R with steps := R.steps + 1, left := leftR R.left, plan := R.plan.tail }, howR R.plan, codeR (howR R.plan)) := if_neg hl
    rw [hs]
    refine (refStep_any R.room R.steps R.left fa _ fc da _ dc sa _ sc ca _ cc (.slice pa R.plan.length pc) R.plan w h6 (by have := hk.plan; omega) hk.steps hl hk.left).mono ?_
    rintro e w' ⟨pv', he, hp, ho, hb⟩
    exact ⟨_, he, RFs.mk (R := { R with steps := R.steps + 1, left := leftR R.left, plan := R.plan.tail }) h1 h2 h3 h4 h5 hp o1 o2 o3 o4 (fun k hk => o5 k (ho k hk)), hb⟩
theorem ROk.step {R : RSt} (h : ROk R) (hs : R.steps < 4611686018427387903) : ROk (stepR R).1 := by
  unfold stepR
  split
  · exact h
  · refine ⟨h.dir, h.sure, h.files, h.changes, h.each, ⟨by show 0 ≤ R.steps + 1; have := h.steps; omega, by show R.steps + 1 < _; omega⟩, ?_, ?_⟩
    · show -1 ≤ leftR R.left ∧ leftR R.left ≤ _
      have := h.left
      unfold leftR; split <;> omega
    · show R.plan.tail.length < _
      have := h.plan; simp; omega
/-- The cells of eight, and that none is frozen. -/
theorem Blk.fs {w : World} {g : Nat} {t : TypeId} {a0 a1 a2 a3 a4 a5 a6 a7 : Value} (h : Blk w g t [a0, a1, a2, a3, a4, a5, a6, a7]) :
    w.cell? ⟨g, 0, none⟩ = some a0 ∧ w.cell? ⟨g, 1, none⟩ = some a1 ∧ w.cell? ⟨g, 2, none⟩ = some a2 ∧ w.cell? ⟨g, 3, none⟩ = some a3 ∧ w.cell? ⟨g, 4, none⟩ = some a4 ∧ w.cell? ⟨g, 5, none⟩ = some a5 ∧ w.cell? ⟨g, 6, none⟩ = some a6 ∧ w.cell? ⟨g, 7, none⟩ = some a7 ∧
    w.frozen? ⟨g, 0, none⟩ = false ∧ w.frozen? ⟨g, 1, none⟩ = false ∧ w.frozen? ⟨g, 2, none⟩ = false ∧ w.frozen? ⟨g, 3, none⟩ = false ∧ w.frozen? ⟨g, 4, none⟩ = false ∧ w.frozen? ⟨g, 5, none⟩ = false ∧ w.frozen? ⟨g, 6, none⟩ = false ∧ w.frozen? ⟨g, 7, none⟩ = false :=
  ⟨h.cell rfl, h.cell rfl, h.cell rfl, h.cell rfl, h.cell rfl, h.cell rfl, h.cell rfl, h.cell rfl, h.frozen _, h.frozen _, h.frozen _, h.frozen _, h.frozen _, h.frozen _, h.frozen _, h.frozen _⟩
/-- An empty one's cells. -/
def zeroC : List Value := [.int .i64 0, .slice none 0 0, .slice none 0 0, .slice none 0 0, .slice none 0 0, .int .i64 0, .int .i64 0, .slice none 0 0]
/-- What 'Arm' makes of it, and the error. -/
def armR (R : RSt) (n : Int) : RSt × Int := if n < 0 then (R, 1) else if R.left = 0 then (R, 22) else ({ R with left := n }, 0)
set_option maxRecDepth 100000 in
set_option maxHeartbeats 2000000 in
theorem refArm_any {P : Nat → Prop} (v : Value) (R : RSt) (n : Int) (w : World) (h : RFs P w v R) :
    Calls Tryz.prog 60 #[v, .int .i64 n] w fun e w' => ∃ v', e = .returned (.tuple #[v', .int .i64 (armR R n).2]) ∧ RFs P w v' (armR R n).1 ∧ Below w.heap.size w w' := by
  obtain ⟨fa, fc, da, dc, sa, sc, ca, cc, pa, pc, cvs, rfl, h1, h2, h3, h4, h5, h6, o1, o2, o3, o4, o5⟩ := h.parts
  obtain ⟨room, files, dir, sure, changes, steps, left, plan⟩ := R
  simp only at h1 h2 h3 h4 h5 h6 o1 o2 o3 o4 o5 ⊢
  have HR := Lib.hid h
  have HN := Lib.hid (RFs.mk (R := ⟨room, files, dir, sure, changes, steps, n, plan⟩) h1 h2 h3 h4 h5 h6 o1 o2 o3 o4 o5)
  have HA : Hid (n < 0 → armR ⟨room, files, dir, sure, changes, steps, left, plan⟩ n = (⟨room, files, dir, sure, changes, steps, left, plan⟩, 1)) := fun h => if_pos h
  have HA2 : Hid (¬ n < 0 → left = 0 → armR ⟨room, files, dir, sure, changes, steps, left, plan⟩ n = (⟨room, files, dir, sure, changes, steps, left, plan⟩, 22)) := fun h h' => by show armR _ _ = _; unfold armR; rw [if_neg h, if_pos h']
  have HA3 : Hid (¬ n < 0 → ¬ left = 0 → armR ⟨room, files, dir, sure, changes, steps, left, plan⟩ n = (⟨room, files, dir, sure, changes, steps, n, plan⟩, 0)) := fun h h' => by show armR _ _ = _; unfold armR; rw [if_neg h, if_neg h']
  clear h1 h2 h3 h4 h5 h6 h o1 o2 o3 o4 o5
  go_enter Tryz.func60, Tryz.ntmps60
  have hbb : ∀ A B, Below w.heap.size w ((w.alloc A).alloc B) := fun A B => ((Below.refl _ _).alloc (Nat.le_refl _) A).alloc (by simp) B
  have HBB := Lib.hid hbb
  clear hbb
  by_cases hn : n < 0
  · go_wp2_with fail
    refine bodyPost_ret (v := .tuple #[.agg #[.int .i64 room, .slice fa files.length fc, .slice da dir.length dc, .slice sa sure.length sc, .slice ca changes.length cc, .int .i64 steps, .int .i64 left, .slice pa plan.length pc], .int .i64 1]) (by simp [results, Tryz.results60, go_sem]) rfl ⟨_, by rw [HA.out hn], ?_, HBB.out _ _⟩
    rw [HA.out hn]; exact HR.out
  by_cases hl : left = 0
  · subst hl
    go_wp2_with fail
    refine bodyPost_ret (v := .tuple #[.agg #[.int .i64 room, .slice fa files.length fc, .slice da dir.length dc, .slice sa sure.length sc, .slice ca changes.length cc, .int .i64 steps, .int .i64 0, .slice pa plan.length pc], .int .i64 22]) (by simp [results, Tryz.results60, go_sem]) rfl ⟨_, by rw [HA2.out hn trivial], ?_, HBB.out _ _⟩
    rw [HA2.out hn trivial]; exact HR.out
  · go_wp2_with fail
    refine bodyPost_ret (v := .tuple #[.agg #[.int .i64 room, .slice fa files.length fc, .slice da dir.length dc, .slice sa sure.length sc, .slice ca changes.length cc, .int .i64 steps, .int .i64 n, .slice pa plan.length pc], .int .i64 0]) (by simp [results, Tryz.results60, go_sem]) rfl ⟨_, by rw [HA3.out hn hl], ?_, HBB.out _ _⟩
    rw [HA3.out hn hl]
    exact HN.out
end Go.Proofs.YtigbgajelkknbaaGreatDoor
