/- Package simfs: 'Append', 'Plan'. -/
import Derived.Test.YtpfbiijcmmkjlaaFsK
namespace Go.Proofs.Ytpfbiijcmmkjlaa
open Go.RowKit Go.Maps Go.WideMaps

theorem Bytes.take {w : World} {pb po cap : Nat} {p : List Int} (h : Bytes w (.slice (some ⟨pb, po, none⟩) p.length cap) p) (k : Nat) (hk : k ≤ p.length) : Bytes w (.slice (some ⟨pb, po, none⟩) k cap) (p.take k) := by
  rcases h with ⟨h, _⟩ | ⟨a, h1, rfl⟩ | ⟨pb', po', cap', h1, h2, h3, h4⟩
  · cases h
  · cases h1
    obtain rfl : k = 0 := by simpa using hk
    exact .inr (.inl ⟨_, rfl, rfl⟩)
  · cases h1
    have hl : (p.take k).length = k := by simp; omega
    refine .inr (.inr ⟨pb, po, cap, by rw [hl], by omega, h3, fun j u hu => h4 j u ?_⟩)
    rw [List.getElem?_map] at hu ⊢
    cases hj : (p.take k)[j]? with
    | none => rw [hj] at hu; cases hu
    | some x =>
      rw [hj] at hu
      have hjk : j < k := by have := (List.getElem?_eq_some_iff.1 hj).1; omega
      rw [List.getElem?_take_of_lt hjk] at hj
      rw [hj]; exact hu
def withData (A : FsA) (b : Nat) (f : Fil) (p : List Int) : FsA := setF A b { f with data := f.data ++ p }
/-- 'Append' to file b, that has f. -/
def putA (A : FsA) (b : Nat) (f : Fil) (p : List Int) : FsA × Int :=
  if 65536 < f.data.length + p.length then (A, 5) else
  if (stepA A).2.2 = 0 then
    (if A.room - (usedA A : Int) < p.length then ((stepA A).1, 21) else (withData (stepA A).1 b f p, 0))
  else (withData (stepA A).1 b f (p.take (partOf (stepA A).2.1 p.length (A.room - (usedA A : Int))).toNat), (stepA A).2.2)
def appendA (A : FsA) (s : ByteArray) (p : List Int) : FsA × Int :=
  match findA A s with
  | (some b, 0) => (match A.file b with
    | some f => putA A b f p
    | none => (A, 0))
  | (_, c) => (A, c)
theorem howOf_nonneg (p : List Int) : 0 ≤ howOf p := by unfold howOf; split <;> omega
/-- Numbers that are planned fit. -/
def PlanOk (A : FsA) : Prop := ∀ k ∈ A.plan, k ≤ 9223372036854775807
theorem stepA_how (A : FsA) (h : PlanOk A) : 0 ≤ (stepA A).2.1 ∧ (stepA A).2.1 ≤ 9223372036854775807 := by
  unfold stepA
  split
  · exact ⟨by simp, by simp⟩
  · refine ⟨howOf_nonneg _, ?_⟩
    show howOf A.plan ≤ _
    cases hp : A.plan with
    | nil => unfold howOf; simp
    | cons k l =>
      have := h k (by rw [hp]; simp)
      by_cases hk : k < 0
      · rw [show howOf (k :: l) = 1 from if_pos hk]; omega
      · rw [show howOf (k :: l) = k from if_neg hk]; exact this

set_option maxRecDepth 100000 in
set_option maxHeartbeats 8000000 in
theorem append_any (g : Nat) (S : Nat → Prop) (A : FsA) (s : ByteArray) (v : Value) (p : List Int) (w : World) (h : Fs w g S A) (hn : Num A) (hpo : PlanOk A) (hok : OkD A.file A.now) (hsh : Short A) (hsz : Maps.size A.now < 1000) (hr : 1 ≤ A.room ∧ A.room ≤ 1048576)
    (hs : s.size ≤ 9223372036854775807) (hp : Bytes w v p) (hpl : p.length ≤ 500000) (hvS : ∀ x, Live v x → ¬ S x) :
    Calls Try.prog 16 #[.pointer (some ⟨g, 0, none⟩), .string s, v] w fun e w' => e = .returned (.int .i64 (appendA A s p).2) ∧ Fs w' g (grow S w w') (appendA A s p).1 ∧ Keep S w w' := by
  have HF := Lib.hid h
  have HNUM := Lib.hid hn
  have HPO := Lib.hid hpo
  have HOK := Lib.hid hok
  have HSH := Lib.hid hsh
  have HSZ := Lib.hid hsz
  have HR0 := Lib.hid hr
  have HFI := Lib.hid (find_any g S A s w h hs)
  obtain ⟨va, vc, rfl⟩ := hp.slice
  have HP := Lib.hid hp
  have HVS := Lib.hid hvS
  clear h hn hpo hok hsh hsz hr hp hvS
  go_enter Try.func16, Try.ntmps16
  by_cases hc : (findA A s).2 = 0
  · obtain ⟨b, f, hfi, hfb⟩ := findA_ok hc HOK.out.named
    have HR : Hid (appendA A s p = putA A b f p) := by show _ = _; unfold appendA; rw [hfi]; simp only [hfb]
    have HLEN := Lib.hid (HSH.out b f hfb).1
    rw [hfi] at HFI
    have HFB := Lib.hid hfb
    clear hc hfi hfb
    have HFI' : Hid (Calls Try.prog 39 #[.pointer (some ⟨g, 0, none⟩), .string s] w fun e w' => e = .returned (.tuple #[.pointer (some ⟨b, 0, none⟩), .int .i64 0]) ∧ Below w.heap.size w w') := HFI.out
    clear HFI
    go_wp2_with fail
    refine HFI'.out.mono ?_; rintro e w1 ⟨rfl, hb1⟩
    have hF1 := HF.out.below hb1
    have HF1 := Lib.hid hF1
    have HB1 := Lib.hid hb1
    have HP1 := Lib.hid (HP.out.below hb1)
    obtain ⟨pv, bn, bs, sv, vs, dv, hM⟩ := hF1
    obtain ⟨hfa, hfS, hfd⟩ := hM.file b f HFB.out
    obtain ⟨da, dc, hde⟩ := own_slice hfa.2
    have c1 := hfa.1.cell (i := 1) rfl
    rw [hde] at c1
    have HROW := Lib.hid hM.row
    have hlen := HLEN.out
    have hwr : IntKind.i64.wrap ((f.data.length : Int) + (p.length : Int)) = f.data.length + p.length := IntWalk.i64_in _ (by omega)
    clear hM hfa hfS hfd hde hb1
    by_cases hlong : 65536 < f.data.length + p.length
    · have HPUT : Hid (putA A b f p = (A, 5)) := by show _ = _; unfold putA; rw [if_pos hlong]
      have hlong' : (65536 : Int) < (f.data.length : Int) + (p.length : Int) := by omega
      clear hlong
      go_wp2_with fail
      go_ret
      exact ⟨ret_int (by rw [HR.out, HPUT.out]), by rw [HR.out, HPUT.out]; exact HF1.out.to grow_left fun _ _ _ => rfl, Keep.of_below HB1.out⟩
    · have hlong' : (f.data.length : Int) + (p.length : Int) ≤ 65536 := by omega
      have HLG := Lib.hid hlong
      clear hlong
      go_wp2_with fail
      have hrl := HROW.out.lt
      have k4 : ∀ W, Below w1.heap.size w1 W → W.cell? ⟨g, 4, none⟩ = some (.int .i64 A.room) := fun W hb => (hb.cell (p := ⟨g, 4, none⟩) hrl).trans (HROW.out.cell (i := 4) rfl)
      have cU : ∀ W, Below w1.heap.size w1 W → Calls Try.prog 12 #[.pointer (some ⟨g, 0, none⟩)] W fun e w' => e = .returned (.int .i64 (usedA A : Nat)) ∧ Below W.heap.size W w' := fun W hb =>
        used_any g S A W (HF1.out.below hb) HOK.out HSH.out HSZ.out
      have hub : usedA A ≤ 65536 * 1000 := by
        obtain ⟨es, he, _⟩ := HOK.out
        have h1 := tot_le A.file (fun b f hf => (HSH.out b f hf).1) (fun _ => true) es
        have h2 := HSZ.out
        unfold usedA; rw [he] at h2 ⊢
        rw [size_eq] at h2
        simp only [usedD]
        omega
      have hrm := HR0.out
      have hsub : IntKind.i64.wrap (A.room - (usedA A : Int)) = A.room - (usedA A : Int) := IntWalk.i64_in _ (by omega)
      have HCU := Lib.hid cU
      have HSUB := Lib.hid hsub
      clear cU hsub
      refine wp_region_quiet (C := fun W => Below w1.heap.size w1 W) (by kernel_rfl) (by kernel_rfl) ⟨rfl, rfl, rfl, Nat.le_refl _, fun _ _ => rfl⟩ ?_
      refine wpQuiet_run (.pointer (some ⟨g, 0, none⟩)) rfl (fun w' hb => by go_simp) ?_
      refine wpQuiet_run (.pointer (some ⟨g, 0, none⟩)) rfl (fun w' hb => by go_simp) ?_
      refine wpQuiet_run (.pointer (some ⟨g, 4, none⟩)) rfl (fun w' hb => by go_simp) ?_
      refine wpQuiet_run (.int .i64 A.room) rfl (fun w' hb => by have := k4 w' hb; go_simp) ?_
      refine wpQuiet_run (.pointer (some ⟨g, 0, none⟩)) rfl (fun w' hb => by go_simp) ?_
      refine wpQuiet_step (fun K hK => ?_); go_simp; refine ⟨.int .i64 (usedA A : Nat), fun w' hb => (HCU.out w' hb).mono fun e w'' ⟨he, hb'⟩ => ⟨he, hb.trans (hb'.mono hb.size)⟩, hK _ ?_⟩; clear hK K
      refine wpQuiet_run (.int .i64 (A.room - (usedA A : Int))) rfl (fun w' hb => by have := HSUB.out; go_simp) ?_
      refine wpQuiet_run (.int .i64 (A.room - (usedA A : Int))) rfl (fun w' hb => by go_simp) ?_
      refine wpQuiet_nil ?_
      intro w2 hb2
      have HF2 := Lib.hid (HF1.out.below hb2)
      have HP2 := Lib.hid (HP1.out.below hb2)
      have hB2 := HB1.out.trans (hb2.mono HB1.out.size)
      have HB2 := Lib.hid hB2
      obtain ⟨rm, hrmv⟩ : ∃ rm, rm = A.room - (usedA A : Int) := ⟨_, rfl⟩
      have HPUT0 : Hid (putA A b f p = if (stepA A).2.2 = 0 then (if rm < p.length then ((stepA A).1, 21) else (withData (stepA A).1 b f p, 0)) else (withData (stepA A).1 b f (p.take (partOf (stepA A).2.1 p.length rm).toNat), (stepA A).2.2)) := by
        show _ = _
        unfold putA; rw [if_neg HLG.out, hrmv]
      rw [← hrmv]
      have hrb : -65536000 ≤ rm ∧ rm ≤ 1048576 := by omega
      clear hrmv hb2 hB2 k4 hrl c1 hwr hub hrm
      go_wp2_with fail
      refine (step_any g S A w2 HF2.out HNUM.out).mono ?_; rintro e w3 ⟨rfl, hF3, hb3⟩
      have HK3 := Lib.hid ((Keep.of_below HB2.out : Keep S w w2).trans' (Keep.of_but hb3 HF.out.gS))
      have HF3 := Lib.hid hF3
      have HSAME := Lib.hid (stepA_same A)
      have HHOW := Lib.hid (stepA_how A HPO.out)
      have HP3 := Lib.hid (HP2.out.same (w' := w3) (fun k hk ho => hb3.block k hk (fun e => HVS.out k ho (by rw [e]; exact HF.out.gS))) hb3.size)
      clear hF3 hb3
      by_cases he : (stepA A).2.2 = 0
      · by_cases hfull : rm < p.length
        · have HPUT : Hid (putA A b f p = ((stepA A).1, 21)) := by show _ = _; rw [HPUT0.out, if_pos he, if_pos hfull]
          generalize stepA A = st at *
          obtain ⟨A3, k3, e3⟩ := st
          simp only at he HPUT HF3 HSAME HHOW
          subst he
          go_wp2_with fail
          go_ret
          exact ⟨ret_int (by rw [HR.out, HPUT.out]), by rw [HR.out, HPUT.out]; exact HF3.out.to grow_left fun _ _ _ => rfl, HK3.out⟩
        · have HPUT : Hid (putA A b f p = (withData (stepA A).1 b f p, 0)) := by show _ = _; rw [HPUT0.out, if_pos he, if_neg hfull]
          have hroom : (p.length : Int) ≤ rm := by omega
          generalize stepA A = st at *
          obtain ⟨A3, k3, e3⟩ := st
          simp only at he HPUT HF3 HSAME HHOW
          subst he
          have HADD := Lib.hid (add_any g S A3 b f _ p w3 HF3.out (by rw [HSAME.out.2.2.2.1]; exact HFB.out) HP3.out (by omega))
          clear hfull
          go_wp2_with fail
          refine HADD.out.mono ?_; rintro e w4 ⟨rfl, hF4, hK4⟩
          have HF4 := Lib.hid hF4
          have HK4 := Lib.hid hK4
          clear hF4 hK4
          go_wp2_with fail
          go_ret
          exact ⟨ret_int (by rw [HR.out, HPUT.out]), by rw [HR.out, HPUT.out]; exact grow_two HF4.out HK3.out.size, HK3.out.trans' HK4.out⟩
      · have HPUT : Hid (putA A b f p = (withData (stepA A).1 b f (p.take (partOf (stepA A).2.1 p.length rm).toNat), (stepA A).2.2)) := by show _ = _; rw [HPUT0.out, if_neg he]
        have he' : ((stepA A).2.2 == 0) = false := by simpa using he
        generalize stepA A = st at *
        obtain ⟨A3, k3, e3⟩ := st
        simp only at he he' HPUT HF3 HSAME HHOW
        obtain ⟨kk, hkk⟩ : ∃ kk : Nat, partOf k3 p.length rm = (kk : Int) := ⟨(partOf k3 p.length rm).toNat, by have : 0 ≤ partOf k3 p.length rm := by unfold partOf; omega
                                                                                                                omega⟩
        have hkl : kk ≤ p.length := by
          have : partOf k3 p.length rm ≤ p.length := by unfold partOf; omega
          omega
        have HPART := Lib.hid fun W => part_any k3 p.length rm HHOW.out.1 HHOW.out.2 W
        rw [hkk] at HPART HPUT
        have hf3 : A3.file b = some f := by rw [HSAME.out.2.2.2.1]; exact HFB.out
        rcases HP3.out with ⟨hvn, hpn⟩ | ⟨wa, hvn, hpn⟩ | ⟨pb, po, cap, hvs, hcap, _, _⟩
        · subst hpn
          obtain ⟨rfl, rfl⟩ : va = none ∧ vc = 0 := by cases hvn; exact ⟨rfl, rfl⟩
          obtain rfl : kk = 0 := by simpa using hkl
          have HADD := Lib.hid (add_any g S A3 b f (.slice none 0 0) [] w3 HF3.out hf3 (.inl ⟨rfl, rfl⟩) (by simp; omega))
          clear hkk hkl hvn he hf3
          go_wp2_with fail
          refine (HPART.out _).mono ?_; rintro e w4 ⟨rfl, rfl⟩
          go_wp2_with fail
          refine HADD.out.mono ?_; rintro e w4 ⟨rfl, hF4, hK4⟩
          have HF4 := Lib.hid hF4
          have HK4 := Lib.hid hK4
          clear hF4 hK4
          go_wp2_with fail
          go_ret
          exact ⟨ret_int (by rw [HR.out, HPUT.out]), by rw [HR.out, HPUT.out]; exact grow_two HF4.out HK3.out.size, HK3.out.trans' HK4.out⟩
        · subst hpn
          obtain ⟨rfl, rfl⟩ : va = some wa ∧ vc = 0 := by cases hvn; exact ⟨rfl, rfl⟩
          obtain rfl : kk = 0 := by simpa using hkl
          have HADD := Lib.hid (add_any g S A3 b f (.slice (some wa) 0 0) [] w3 HF3.out hf3 (.inr (.inl ⟨_, rfl, rfl⟩)) (by simp; omega))
          clear hkk hkl hvn he hf3
          go_wp2_with fail
          refine (HPART.out _).mono ?_; rintro e w4 ⟨rfl, rfl⟩
          go_wp2_with fail
          refine HADD.out.mono ?_; rintro e w4 ⟨rfl, hF4, hK4⟩
          have HF4 := Lib.hid hF4
          have HK4 := Lib.hid hK4
          clear hF4 hK4
          go_wp2_with fail
          go_ret
          exact ⟨ret_int (by rw [HR.out, HPUT.out]), by rw [HR.out, HPUT.out]; exact grow_two HF4.out HK3.out.size, HK3.out.trans' HK4.out⟩
        · obtain ⟨rfl, rfl⟩ : va = some ⟨pb, po, none⟩ ∧ vc = cap := by cases hvs; exact ⟨rfl, rfl⟩
          have htl : (p.take kk).length = kk := by simp; omega
          have HADD := Lib.hid (add_any g S A3 b f (.slice (some ⟨pb, po, none⟩) kk vc) (p.take kk) w3 HF3.out hf3 (HP3.out.take kk hkl) (by rw [htl]; omega))
          have hkc : kk ≤ vc := by omega
          clear hkk hvs he htl hf3
          go_wp2_with fail
          refine (HPART.out _).mono ?_; rintro e w4 ⟨rfl, rfl⟩
          go_wp2_with fail
          refine HADD.out.mono ?_; rintro e w4 ⟨rfl, hF4, hK4⟩
          have HF4 := Lib.hid hF4
          have HK4 := Lib.hid hK4
          clear hF4 hK4
          go_wp2_with fail
          go_ret
          exact ⟨ret_int (by rw [HR.out, HPUT.out]), by rw [HR.out, HPUT.out]; exact grow_two HF4.out HK3.out.size, HK3.out.trans' HK4.out⟩
  · have HR : Hid (appendA A s p = (A, (findA A s).2)) := by
      show _ = _
      unfold appendA
      generalize findA A s = fa at *
      obtain ⟨fx, fc⟩ := fa
      simp only at hc
      split
      · rename_i heq; cases heq; exact absurd rfl hc
      · rename_i heq; cases heq; rfl
    have hc' : ((findA A s).2 == 0) = false := by simpa using hc
    generalize findA A s = fa at *
    obtain ⟨fx, fc⟩ := fa
    simp only at hc hc' HFI HR
    clear hc
    go_wp2_with fail
    refine HFI.out.mono ?_; rintro e w1 ⟨rfl, hb1⟩
    have HF1 := Lib.hid (HF.out.below hb1)
    have HB1 := Lib.hid hb1
    clear hb1
    go_wp2_with fail
    go_ret
    exact ⟨ret_int (by rw [HR.out]), by rw [HR.out]; exact HF1.out.to grow_left fun _ _ _ => rfl, Keep.of_below HB1.out⟩
end Go.Proofs.Ytpfbiijcmmkjlaa
