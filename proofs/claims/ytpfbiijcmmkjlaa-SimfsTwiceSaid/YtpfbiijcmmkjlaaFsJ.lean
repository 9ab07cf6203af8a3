/- Package simfs: how many bytes a directory has. -/
import Derived.Test.YtpfbiijcmmkjlaaFsI
import Derived.Maps.RangeWalk
namespace Go.Proofs.Ytpfbiijcmmkjlaa
open Go.RowKit Go.Maps Go.WideMaps

/-- How many bytes a file has, as an entry of a directory tells it. -/
def wt (fl : Nat → Option Fil) : DataW Unit → Nat
  | .lit (.int .i64 b) => ((fl b.toNat).map (·.data.length)).getD 0
  | _ => 0
def tot (fl : Nat → Option Fil) (es : List (Lit × DataW Unit)) (left : Lit → Bool) : Nat := ((es.filter fun p => left p.1).map fun p => wt fl p.2).sum
theorem tot_step (fl : Nat → Option Fil) (kl : Lit) (y : DataW Unit) (left : Lit → Bool) (hl : left kl = true) : ∀ (es : List (Lit × DataW Unit)), es.Pairwise (fun p q => p.1 ≠ q.1) → (∀ p ∈ es, WideAt.IsKeyLit p.1) → (kl, y) ∈ es →
    tot fl es left = wt fl y + tot fl es (fun z => left z && !z.sameKey kl)
  | [], _, _, h => by cases h
  | p :: es, hp, hk, h => by
    obtain ⟨hp1, hp2⟩ := List.pairwise_cons.1 hp
    have hsame : ∀ q ∈ p :: es, q.1.sameKey kl = true ↔ q.1 = kl := fun q hq => ⟨WideAt.sameKey_eq, fun e => by
      have := hk q hq
      rw [← e]
      revert this
      cases q.1 <;> simp [WideAt.IsKeyLit, Lit.sameKey]⟩
    rcases List.mem_cons.1 h with rfl | h
    · have hrest : tot fl es (fun z => left z && !z.sameKey kl) = tot fl es left := by
        unfold tot
        congr 2
        apply List.filter_congr
        intro q hq
        have : q.1.sameKey kl = false := by
          cases hs : q.1.sameKey kl with
          | false => rfl
          | true => exact absurd ((hsame q (List.mem_cons_of_mem _ hq)).1 hs).symm (hp1 q hq)
        simp [this]
      have hself : kl.sameKey kl = true := (hsame (kl, y) (List.mem_cons_self)).2 rfl
      have e1 : tot fl ((kl, y) :: es) left = wt fl y + tot fl es left := by unfold tot; simp [hl]
      have e2 : tot fl ((kl, y) :: es) (fun z => left z && !z.sameKey kl) = tot fl es (fun z => left z && !z.sameKey kl) := by unfold tot; simp [hself]
      rw [e1, e2, hrest]
    · have ih := tot_step fl kl y left hl es hp2 (fun q hq => hk q (List.mem_cons_of_mem _ hq)) h
      have hne : p.1.sameKey kl = false := by
        cases hs : p.1.sameKey kl with
        | false => rfl
        | true => exact absurd ((hsame p (List.mem_cons_self)).1 hs) (hp1 _ h)
      by_cases hlp : left p.1 = true
      · have e1 : tot fl (p :: es) left = wt fl p.2 + tot fl es left := by unfold tot; simp [hlp]
        have e2 : tot fl (p :: es) (fun z => left z && !z.sameKey kl) = wt fl p.2 + tot fl es (fun z => left z && !z.sameKey kl) := by unfold tot; simp [hlp, hne]
        rw [e1, e2, ih]; omega
      · have e1 : tot fl (p :: es) left = tot fl es left := by unfold tot; simp [hlp]
        have e2 : tot fl (p :: es) (fun z => left z && !z.sameKey kl) = tot fl es (fun z => left z && !z.sameKey kl) := by unfold tot; simp [hlp]
        rw [e1, e2, ih]
theorem mem_of_atKey {es : List (Lit × DataW Unit)} {kl : Lit} {y : DataW Unit} (h : ∀ z, (DataW.map es).atKey kl z = y) : (kl, y) ∈ es := by
  cases hf : es.find? (fun p => p.1.sameKey kl) with
  | none =>
    have e : ∀ z, (DataW.map es).atKey kl z = z := fun z => by unfold DataW.atKey; simp [hf]
    have h1 := h .nil
    have h2 := h (.lit (.bool true))
    rw [e] at h1 h2
    rw [← h1] at h2; cases h2
  | some p =>
    have e : ∀ z, (DataW.map es).atKey kl z = p.2 := fun z => by unfold DataW.atKey; simp [hf]
    have h1 := List.mem_of_find?_eq_some hf
    have h2 := List.find?_some hf
    have h3 : p.1 = kl := WideAt.sameKey_eq h2
    have h4 := h .nil
    rw [e] at h4
    rw [← h3, ← h4]; exact h1
theorem tot_le (fl : Nat → Option Fil) (hs : ∀ b f, fl b = some f → f.data.length ≤ 65536) (left : Lit → Bool) : ∀ es : List (Lit × DataW Unit), tot fl es left ≤ 65536 * es.length
  | [] => by simp [tot]
  | p :: es => by
    have ih := tot_le fl hs left es
    have hw : wt fl p.2 ≤ 65536 := by
      unfold wt
      split
      · rename_i b _
        cases hf : fl b.toNat with
        | none => simp
        | some f => simpa using hs _ f hf
      · omega
    have : tot fl (p :: es) left ≤ wt fl p.2 + tot fl es left := by unfold tot; simp [List.filter_cons]; split <;> simp
    simp only [List.length_cons]; omega
/-- How many bytes the files of a directory have. -/
def usedD (fl : Nat → Option Fil) : DataW Unit → Nat
  | .map es => tot fl es (fun _ => true)
  | _ => 0

theorem keyStr {key : Value} {kl : Lit} (h : keyOf Try.prog 9 key = some kl) : ∃ s, key = .string s ∧ kl = keyL s := by
  cases key <;> simp [keyOf, Try.underlying9, mapKey] at h
  rename_i s
  exact ⟨s, rfl, h.2.symm⟩
/-- What a directory's entries lead to. -/
def Leads (w : World) (fl : Nat → Option Fil) (dv : Nat → Value) (es : List (Lit × DataW Unit)) : Prop :=
  ∀ p ∈ es, ∃ b f, p.2 = .lit (.int .i64 (b : Nat)) ∧ fl b = some f ∧ Blk w b 84 [.int .i64 f.num, dv b, .int .i64 f.sure] ∧ OwnD w (dv b) f.data ∧ f.data.length ≤ 65536

set_option maxRecDepth 100000 in
set_option maxHeartbeats 2000000 in
theorem size_any (b : Nat) (es : List (Lit × DataW Unit)) (fl : Nat → Option Fil) (dv : Nat → Value) (w : World) (h : Dir w b (.map es)) (hl : Leads w fl dv es) (hn : es.length < 1000) (hs : ∀ b f, fl b = some f → f.data.length ≤ 65536) :
    Calls Try.prog 38 #[.map (some b)] w fun e w' => e = .returned (.int .i64 (tot fl es (fun _ => true) : Nat)) ∧ Below w.heap.size w w' := by
  have hcan := h.canon
  obtain ⟨es', hes, hpw, hky⟩ := hcan
  cases hes
  have hap := apart_of_rising hpw
  have htl := tot_le fl hs (fun _ => true) es
  have hall : tot fl es (Maps.has (.map es)) = tot fl es (fun _ => true) := by
    unfold tot; congr 2
    apply List.filter_congr
    intro p hp
    rw [has_eq]
    have : es.any (fun q => q.1.sameKey p.1) = true := List.any_eq_true.2 ⟨p, hp, by
      have := hky p hp
      revert this
      cases p.1 <;> simp [WideAt.IsKeyLit, Lit.sameKey]⟩
    rw [this]
  have HD := Lib.hid h
  have HL := Lib.hid hl
  have HAP := Lib.hid hap
  have HKY := Lib.hid hky
  obtain ⟨T, hT⟩ : ∃ T, tot fl es (fun _ => true) = T := ⟨_, rfl⟩
  rw [hT] at htl hall ⊢
  have HT := Lib.hid hT
  have HALL := Lib.hid hall
  have HTL : T < 100000000 := by omega
  clear h hl hap hky hpw hT hall htl hs
  go_enter Try.func38, Try.ntmps38
  go_wp2_with (first | (at_range; refine wpList_range_own _ rfl _ 54 rfl 9 77 law9 Try.underlying54 _ b _ _ rfl HD.out ?_; intro w0 hrg0 hg0 hs0))
  go_frame
  have hB0 : Below w.heap.size w w0 := (Below.refl _ w).grown hg0 (Nat.le_refl _) fun j hj => by cases hj
  go_loopw [3, 5] (fun s3 _ wr => ∃ (left : Lit → Bool) (cnt : Nat) (n : Nat), wr.ranges Try.prog 9 ptrElem b w.heap.size (Maps.size (.map es : DataW Unit)) (.map es) left cnt ∧ s3 = .int .i64 n ∧ n + tot fl es left = T ∧ Below w.heap.size w wr)
    (fun _ _ wr => wr.rangeLeft b w.heap.size)
  case atStart => exact ⟨_, _, 0, hrg0, rfl, by rw [Nat.zero_add]; exact HALL.out, hB0⟩
  case round =>
    clear hrg0 hg0 hs0 hB0
    obtain ⟨left, cnt, n, hrg, rfl, hsum, hB⟩ := hrel
    have HRG := Lib.hid hrg
    have HSUM := Lib.hid hsum
    have HB := Lib.hid hB
    clear hrg hsum hB
    go_wp2_with (first | (at_next; refine wpList_next_ranges _ rfl _ rfl 9 law9 ptrElem Value.string ptrOf (fun key kl hk => by obtain ⟨s, hs, _⟩ := keyStr hk; exact ⟨s, hs⟩) (fun v y hv => by obtain ⟨x, hx, _⟩ := ptrElem_inv hv; exact ⟨x, hx⟩) b w.heap.size _ _ _ _ rfl HRG.out ?_ ?_))
    · intro hc0 hl0
      have hz : tot fl es left = 0 := by
        unfold tot
        rw [List.filter_eq_nil_iff.2 (fun p _ => by rw [hl0]; simp)]; rfl
      have hnT : n = T := by have := HSUM.out; omega
      subst hnT
      clear hz
      go_wp2_with fail
      go_ret
      exact ⟨rfl, HB.out⟩
    · intro x c kl yd yp w1 cnt1 hkx hlk hRy hat hrg1 hlt hg1 hs1 hen
      have hyd : yd = datOf c := by
        rw [ptrElem_of] at hRy
        exact (congrArg Prod.fst (Option.some.inj hRy)).symm
      have hmem := mem_of_atKey hat
      obtain ⟨fb, f, hfb, hflb, hblk, hown, hlen⟩ := HL.out _ hmem
      simp only at hfb
      have hcb : c = some fb := datOf_inj (by rw [← hyd]; exact hfb)
      have hw : wt fl yd = f.data.length := by
        rw [hfb]; unfold wt; simp [hflb]
      have hst := tot_step fl kl yd left hlk es HAP.out HKY.out hmem
      rw [hw] at hst
      subst hcb
      obtain ⟨da, dc, hde⟩ := own_slice hown
      have hB1 : Below w.heap.size w w1 := HB.out.grown hg1 HB.out.size fun j hj => by obtain rfl := Option.some.inj hj; exact Nat.le_refl _
      have hblk1 := Below.blk hB1 hblk.lt hblk
      have c1 := hblk1.cell (i := 1) rfl
      rw [hde] at c1
      have hen' : (Instr.entry (.pointer (some ⟨w.heap.size, 0, none⟩))).run Try.prog w1 = .ok (.tuple #[.string x, .pointer (some ⟨fb, 0, none⟩)]) w1 := hen
      have hbd : n + f.data.length ≤ T := by have := HSUM.out; omega
      have hwr : IntKind.i64.wrap ((n : Int) + (f.data.length : Int)) = n + f.data.length := IntWalk.i64_in _ (by omega)
      have HB1 := Lib.hid hB1
      have HRG1 := Lib.hid hrg1
      have HST := Lib.hid hst
      have HLT := Lib.hid hlt
      clear hen hde hyd hRy hat hmem hfb hflb hblk hown hw hst hblk1 hB1 hrg1 hg1 hlt
      go_wp2_with fail
      go_roundw
      case rel => exact ⟨_, _, n + f.data.length, HRG1.out, by go_num, by have := HSUM.out; have := HST.out; omega, HB1.out⟩
      case measure => rw [HRG1.out.left_eq, HRG.out.left_eq]; exact HLT.out
end Go.Proofs.Ytpfbiijcmmkjlaa
