/- Package seglog: 'Name'. Package seglog: 'Create', 'Append'. Package seglog: the names of segments. -/
import Derived.Test.YtigbgajelkknbaaGreatDoorFsSd
import Derived.Test.YtigbgajelkknbaaGreatDoorFrR
import Derived.WalkSmall
import Derived.Lib.ItoaNum
namespace Go.Proofs.YtigbgajelkknbaaGreatDoor
open Go.RowKit
set_option maxRecDepth 100000
set_option maxRecDepth 100000

/-- The table of powers of ten stands. -/
def Tab (w : World) : Prop := Lib.TabIs Tryz.prog w "internal/strconv.uint64pow10" .u64 Lib.pow10Tab
theorem tabGlobal : Tryz.prog.globalNamed "internal/strconv.uint64pow10" = some 3 := by kernel_rfl
theorem Tab.below {w0 w : World} (h : Tab w0) (hb : Below w0.heap.size w0 w) : Tab w :=
  var?_below hb tabGlobal (World.block_lt_of_cell? w0 _ ((World.var?_cell tabGlobal h 0).trans (show _ = some (Value.int .u64 1) from rfl))) h
theorem grow_below (w : World) (k : Nat) (os : Array Obj) : Below w.heap.size w (Sort.grow (w.drewN k) os) := by
  have h := Below.drewN (Below.refl w.heap.size w) k
  refine ⟨h.os, h.tape, h.output, ?_, fun j hj => ?_⟩
  · have := h.size
    simp only [Sort.grow, Array.size_append]; omega
  · have := h.size
    have e := h.block j hj
    simp only [Sort.grow]
    rw [Array.getElem?_append_left (by omega)]; exact e
/-- The name of the segment with this id, byte by byte. -/
def segNameL (id : Int) : List UInt8 := [115, 101, 103, 45] ++ Lib.decDigits id.toNat
def nameV (id : Int) : ByteArray := if 1 ≤ id ∧ id ≤ 2147483647 then ⟨(segNameL id).toArray⟩ else ⟨#[]⟩
def codeN (id : Int) : Int := if 1 ≤ id ∧ id ≤ 2147483647 then 0 else 1
theorem digits_len : ∀ n : Nat, n < 10 ^ 10 → (Lib.decDigits n).length ≤ 10 := by
  have key : ∀ k n : Nat, n < 10 ^ (k + 1) → (Lib.decDigits n).length ≤ k + 1 := by
    intro k
    induction k with
    | zero => intro n h; rw [Lib.decDigits]; split <;> simp_all
    | succ k ih =>
      intro n h
      rw [Lib.decDigits]
      split
      · simp
      · have := ih (n / 10) (by rw [Nat.pow_succ] at h; omega)
        simp only [List.length_append, List.length_cons, List.length_nil]; omega
  exact fun n h => key 9 n h
theorem nameV_size (id : Int) : (nameV id).size ≤ 14 := by
  unfold nameV
  split
  · have h := digits_len id.toNat (by omega)
    show (segNameL id).toArray.size ≤ 14
    unfold segNameL
    simp only [List.size_toArray, List.length_append, List.length_cons, List.length_nil]; omega
  · exact Nat.zero_le _
set_option maxHeartbeats 1000000 in
theorem name_any (id : Int) (w : World) (ht : Tab w) :
    Calls Tryz.prog 49 #[.int .i64 id] w fun e w' => e = .returned (.tuple #[.string (nameV id), .int .i64 (codeN id)]) ∧ Below w.heap.size w w' := by
  by_cases h1 : 1 ≤ id
  · by_cases h2 : id ≤ 2147483647
    · have hv : nameV id = ⟨(segNameL id).toArray⟩ := if_pos ⟨h1, h2⟩
      have hc : codeN id = 0 := if_pos ⟨h1, h2⟩
      have hI := Tryz.strconv_Itoa id (by omega) (by omega) w ht
      obtain ⟨s, hs⟩ : ∃ s : ByteArray, s = ⟨(Lib.itoa id).toArray⟩ := ⟨_, rfl⟩
      rw [← hs] at hI
      have hz : s.size ≤ 20 := by
        have := nameV_size id
        rw [hv] at this
        rw [hs, show Lib.itoa id = Lib.decDigits id.toNat by unfold Lib.itoa; rw [if_neg (by omega)]]
        have h9 := digits_len id.toNat (by omega)
        show (Lib.decDigits id.toNat).toArray.size ≤ 20
        rw [List.size_toArray]; omega
      have hE : (⟨#[115, 101, 103, 45]⟩ : ByteArray) ++ s = nameV id := by
        rw [hv, hs, show Lib.itoa id = Lib.decDigits id.toNat by unfold Lib.itoa; rw [if_neg (by omega)]]
        apply ByteArray.ext
        rw [ByteArray.data_append]
        apply Array.toList_inj.1
        rw [Array.toList_append]
        unfold segNameL
        simp
      have HI := Lib.hid hI
      have HE := Lib.hid hE
      have HC := Lib.hid hc
      have n1 : ¬ id < 1 := by omega
      have n2 : ¬ 2147483647 < id := by omega
      have n3 : ¬ 9223372036854775807 < 4 + s.size := by omega
      clear hI hE hs hv hc h1 h2
      go_enter Tryz.func49, Tryz.ntmps49
      go_wp2_with (go_at_call 106; refine HI.out.mono ?_; rintro e w' ⟨rfl, k, os, rfl⟩)
      go_ret2
      exact ⟨by rw [← HE.out, HC.out]; rfl, grow_below w k os⟩
    · have hv : nameV id = ⟨#[]⟩ := if_neg (by omega)
      have hc : codeN id = 1 := if_neg (by omega)
      rw [hv, hc]
      have n1 : ¬ id < 1 := by omega
      have n2 : 2147483647 < id := by omega
      go_enter Tryz.func49, Tryz.ntmps49
      go_wp2_with fail
      go_ret2
      exact ⟨rfl, Below.refl _ _⟩
  · have hv : nameV id = ⟨#[]⟩ := if_neg (by omega)
    have hc : codeN id = 1 := if_neg (by omega)
    rw [hv, hc]
    have n1 : id < 1 := by omega
    go_enter Tryz.func49, Tryz.ntmps49
    go_wp2_with fail
    go_ret2
    exact ⟨rfl, Below.refl _ _⟩
end Go.Proofs.YtigbgajelkknbaaGreatDoor
namespace Go.Proofs.YtigbgajelkknbaaGreatDoor
open Go.RowKit
set_option maxRecDepth 100000
set_option maxRecDepth 100000

theorem ret_code {a b : Int} (h : a = b) : Ending.returned (.int .i64 a) = .returned (.int .i64 b) := by rw [h]
/-- 'Create'. -/
def segCreateA (A : FsA) (id : Int) (b : Nat) : FsA × Int :=
  if codeN id = 0 then (if (createA A (nameV id) b).2 = 0 then dirA (createA A (nameV id) b).1 else createA A (nameV id) b) else (A, codeN id)
section
variable {w0 w : World} {g n : Nat} {S : Nat → Prop} {A : FsA}
set_option maxHeartbeats 2000000 in
theorem segCreate_pf (id : Int) (h : PF w0 w g S A) (hI : Inv A n) (hn : n < 800) (ht : Tab w0) :
    Calls Tryz.prog 14 #[.pointer (some ⟨g, 0, none⟩), .int .i64 id] w fun e w' => ∃ b, A.file b = none ∧ Done w0 w g S (segCreateA A id b).1 (.int .i64 (segCreateA A id b).2) e w' := by
  have HNM := Lib.hid (name_any id w (ht.below h.base))
  have hsz := nameV_size id
  have HCR := Lib.hid (fun (w1 : World) (hb : Below w.heap.size w w1) => create_pf (nameV id) (h.below hb) hI (by omega) (by omega))
  have HDI := Lib.hid (fun (w2 : World) (S2 : Nat → Prop) (b : Nat) (h2 : PF w0 w2 g S2 (createA A (nameV id) b).1) => dir_pf h2 (inv_create hI (nameV id) b) (by omega))
  have HSG : Hid (∀ b, segCreateA A id b = if codeN id = 0 then (if (createA A (nameV id) b).2 = 0 then dirA (createA A (nameV id) b).1 else createA A (nameV id) b) else (A, codeN id)) := fun _ => rfl
  have HH := Lib.hid h
  clear hI hn ht h
  generalize codeN id = cn at HNM HSG
  generalize nameV id = nm at *
  go_enter Tryz.func14, Tryz.ntmps14
  go_wp2_with fail
  refine HNM.out.mono ?_; rintro e w1 ⟨rfl, hb1⟩
  have HB1 := Lib.hid hb1
  clear hb1
  by_cases hc : cn = 0
  · subst hc
    have HSF : Hid (∀ b, segCreateA A id b = if (createA A nm b).2 = 0 then dirA (createA A nm b).1 else createA A nm b) := fun b => by rw [HSG.out b, if_pos rfl]
    clear HSG
    go_wp2_with fail
    refine (HCR.out w1 HB1.out).mono ?_; rintro e w2 ⟨b, hbn, S2, rfl, hpf2, hadv2⟩
    have HS2 : Hid (segCreateA A id b = if (createA A nm b).2 = 0 then dirA (createA A nm b).1 else createA A nm b) := HSF.out b
    have HP2 := Lib.hid hpf2
    have HA2 := Lib.hid hadv2
    have HBN := Lib.hid hbn
    have HD2 := Lib.hid (HDI.out w2 S2 b hpf2)
    clear hpf2 hadv2 hbn HDI HCR HSF
    generalize createA A nm b = R at *
    obtain ⟨A2, c2⟩ := R
    simp only at HS2 HD2 HP2
    by_cases hc2 : c2 = 0
    · subst hc2
      rw [if_pos rfl] at HS2
      go_wp2_with fail
      refine HD2.out.mono ?_; rintro e w3 ⟨S3, rfl, hpf3, hadv3⟩
      have HP3 := Lib.hid hpf3
      have HA3 := Lib.hid hadv3
      clear hpf3 hadv3
      go_wp2_with fail
      go_ret
      exact ⟨b, HBN.out, S3, ret_code (by rw [HS2.out]), by rw [HS2.out]; exact HP3.out, ((Adv.of_below HB1.out).trans HA2.out).trans HA3.out⟩
    · have hc2' : (c2 == 0) = false := by simpa using hc2
      rw [if_neg hc2] at HS2
      clear hc2
      go_wp2_with fail
      go_ret
      exact ⟨b, HBN.out, S2, ret_code (by rw [HS2.out]), by rw [HS2.out]; exact HP2.out, (Adv.of_below HB1.out).trans HA2.out⟩
  · have hc' : (cn == 0) = false := by simpa using hc
    have HS2 : Hid (segCreateA A id w.heap.size = (A, cn)) := by show _ = _; rw [HSG.out, if_neg hc]
    clear hc
    go_wp2_with fail
    go_ret
    exact ⟨w.heap.size, HH.out.fs.ge (Nat.le_refl _), S, ret_code (by rw [HS2.out]), by rw [HS2.out]; exact HH.out.below HB1.out, Adv.of_below HB1.out⟩
theorem inv_segCreate (h : Inv A n) (id : Int) (b : Nat) : Inv (segCreateA A id b).1 (n + 6) := by
  unfold segCreateA
  split
  · split
    · exact (inv_dir (inv_create h _ b)).mono (by omega)
    · exact (inv_create h _ b).mono (by omega)
  · exact h.mono (by omega)
end
/-- What is wrong with a frame of so many bytes. -/
def encC (k : Int) (m : Nat) : Int := if 1 ≤ k ∧ k ≤ 9 then if m ≤ 8192 then 0 else 5 else 1
theorem enc_all (k : Int) (v : Value) (ps : List (List Int)) (w : World) (hp : Fr.Parts w v ps) (hm : ps.length < 9223372036854775807)
    (hq : ∀ i, i < ps.length → (ps.getD i []).length < 1000000000000 ∧ Fr.Byt (ps.getD i [])) :
    Calls Tryz.prog 63 #[.int .i64 k, v] w fun e w' => ∃ a m c, e = .returned (.tuple #[.slice a m c, .int .i64 (encC k ps.flatten.length)]) ∧
      (encC k ps.flatten.length = 0 → Fr.OwnB w' w.heap.size (.slice a m c) (Fr.frameI k ps.flatten)) ∧ Below w.heap.size w w' := by
  by_cases hk : 1 ≤ k ∧ k ≤ 9
  · by_cases hl : ps.flatten.length ≤ 8192
    · have hc : encC k ps.flatten.length = 0 := by unfold encC; rw [if_pos hk, if_pos hl]
      rw [hc]
      refine (Fr.encode_any k v ps w hk.1 hk.2 hp hm hq hl).mono fun e w' ⟨v', he, ho, hb⟩ => ?_
      obtain ⟨a, c, rfl⟩ := ho.slice
      exact ⟨a, _, c, he, fun _ => ho, hb⟩
    · have hc : encC k ps.flatten.length = 5 := by unfold encC; rw [if_pos hk, if_neg hl]
      rw [hc]
      refine (Fr.encode_long k v ps w hk hp hm (fun i hi => (hq i hi).1) (by omega)).mono fun e w' ⟨he, hb⟩ => ?_
      subst hb
      exact ⟨_, _, _, he, fun h => absurd h (by decide), Below.refl _ _⟩
  · have hc : encC k ps.flatten.length = 1 := by unfold encC; rw [if_neg hk]
    rw [hc]
    refine (Fr.encode_bad k v ps w hk hp).mono fun e w' ⟨he, hb⟩ => ?_
    subst hb
    exact ⟨_, _, _, he, fun h => absurd h (by decide), Below.refl _ _⟩
/-- 'Append'. -/
def segAppendA (A : FsA) (id k : Int) (p : List Int) : FsA × Int :=
  if codeN id = 0 then if encC k p.length = 0 then (if (appendA A (nameV id) (Fr.frameI k p)).2 = 0 then syncA (appendA A (nameV id) (Fr.frameI k p)).1 (nameV id) else appendA A (nameV id) (Fr.frameI k p)) else (A, encC k p.length) else (A, codeN id)
theorem encC_zero {k : Int} {m : Nat} (h : encC k m = 0) : 1 ≤ k ∧ k ≤ 9 ∧ m ≤ 8192 := by
  unfold encC at h
  split at h
  · split at h
    · exact ⟨by omega, by omega, by omega⟩
    · cases h
  · cases h
section
variable {w0 w : World} {g n : Nat} {S : Nat → Prop} {A : FsA}
set_option maxHeartbeats 2000000 in
theorem segAppend_pf (id k : Int) (v : Value) (ps : List (List Int)) (h : PF w0 w g S A) (hI : Inv A n) (hn : n < 800) (ht : Tab w0) (hp : Fr.Parts w v ps) (hm : ps.length < 9223372036854775807)
    (hq : ∀ i, i < ps.length → (ps.getD i []).length < 1000000000000 ∧ Fr.Byt (ps.getD i [])) :
    Calls Tryz.prog 16 #[.pointer (some ⟨g, 0, none⟩), .int .i64 id, .int .i64 k, v] w fun e w' => Done w0 w g S (segAppendA A id k ps.flatten).1 (.int .i64 (segAppendA A id k ps.flatten).2) e w' := by
  obtain ⟨va, vc, rfl, -⟩ := hp.open
  have HNM := Lib.hid (name_any id w (ht.below h.base))
  have hsz := nameV_size id
  have HEN := Lib.hid (fun (w1 : World) (hb : Below w.heap.size w w1) => enc_all k (.slice va ps.length vc) ps w1 (hp.below hb) hm hq)
  have HAP := Lib.hid (fun (w1 w2 : World) (hb : Below w.heap.size w w1) (hb2 : Below w1.heap.size w1 w2) (a : Option Addr) (m c : Nat) (ho : Fr.OwnB w2 w1.heap.size (.slice a m c) (Fr.frameI k ps.flatten)) (hle : encC k ps.flatten.length = 0) =>
    append_pf (nameV id) (.slice a m c) (Fr.frameI k ps.flatten) ((h.below hb).below hb2) hI (by omega) (by omega) (OwnD.bytes ho) (by have := (encC_zero hle).2.2; rw [Fr.frameI_length]; omega) (fun x hx hS => by
      have e1 := (World.ownsRow.lt ho x hx.1).1
      have e2 := ((h.below hb).lo x hS).2
      omega))
  have HSY := Lib.hid (fun (w2 : World) (S2 : Nat → Prop) (h2 : PF w0 w2 g S2 (appendA A (nameV id) (Fr.frameI k ps.flatten)).1) => sync_pf (nameV id) h2 (inv_append hI (nameV id) (Fr.frameI k ps.flatten)) (by omega) (by omega))
  have HSG : Hid (segAppendA A id k ps.flatten = if codeN id = 0 then if encC k ps.flatten.length = 0 then (if (appendA A (nameV id) (Fr.frameI k ps.flatten)).2 = 0 then syncA (appendA A (nameV id) (Fr.frameI k ps.flatten)).1 (nameV id) else appendA A (nameV id) (Fr.frameI k ps.flatten)) else (A, encC k ps.flatten.length) else (A, codeN id)) := Lib.hid rfl
  have HH := Lib.hid h
  clear hI hn ht h hp hm hq
  generalize segAppendA A id k ps.flatten = Z at *
  generalize codeN id = cn at HNM HSG
  generalize encC k ps.flatten.length = ce at HEN HSG HAP
  generalize Fr.frameI k ps.flatten = fr at *
  generalize nameV id = nm at *
  go_enter Tryz.func16, Tryz.ntmps16
  go_wp2_with fail
  refine HNM.out.mono ?_; rintro e w1 ⟨rfl, hb1⟩
  have HB1 := Lib.hid hb1
  clear hb1
  by_cases hc : cn = 0
  · subst hc
    rw [if_pos rfl] at HSG
    go_wp2_with fail
    refine (HEN.out w1 HB1.out).mono ?_; rintro e w2 ⟨a, m, c, rfl, ho, hb2⟩
    have HO := Lib.hid ho
    have HB2 := Lib.hid hb2
    clear ho hb2
    by_cases hce : ce = 0
    · have HAP2 := Lib.hid (HAP.out w1 w2 HB1.out HB2.out a m c (HO.out hce) hce)
      subst hce
      rw [if_pos rfl] at HSG
      clear HAP HO HEN
      go_wp2_with fail
      refine HAP2.out.mono ?_; rintro e w3 ⟨S3, rfl, hpf3, hadv3⟩
      have HP3 := Lib.hid hpf3
      have HA3 := Lib.hid hadv3
      have HS3 := Lib.hid (HSY.out w3 S3 hpf3)
      clear hpf3 hadv3 HAP2 HSY
      generalize appendA A nm fr = R at *
      obtain ⟨A3, c3⟩ := R
      simp only at HSG HS3 HP3
      by_cases hc3 : c3 = 0
      · subst hc3
        rw [if_pos rfl] at HSG
        go_wp2_with fail
        refine HS3.out.mono ?_; rintro e w4 ⟨S4, rfl, hpf4, hadv4⟩
        have HP4 := Lib.hid hpf4
        have HA4 := Lib.hid hadv4
        clear hpf4 hadv4
        go_wp2_with fail
        go_ret
        exact ⟨S4, ret_code (by rw [HSG.out]), by rw [HSG.out]; exact HP4.out, (((Adv.of_below HB1.out).trans (Adv.of_below HB2.out)).trans HA3.out).trans HA4.out⟩
      · have hc3' : (c3 == 0) = false := by simpa using hc3
        rw [if_neg hc3] at HSG
        clear hc3
        go_wp2_with fail
        go_ret
        exact ⟨S3, ret_code (by rw [HSG.out]), by rw [HSG.out]; exact HP3.out, ((Adv.of_below HB1.out).trans (Adv.of_below HB2.out)).trans HA3.out⟩
    · have hce' : (ce == 0) = false := by simpa using hce
      rw [if_neg hce] at HSG
      clear hce HO HAP
      go_wp2_with fail
      go_ret
      exact ⟨S, ret_code (by rw [HSG.out]), by rw [HSG.out]; exact (HH.out.below HB1.out).below HB2.out, (Adv.of_below HB1.out).trans (Adv.of_below HB2.out)⟩
  · have hc' : (cn == 0) = false := by simpa using hc
    rw [if_neg hc] at HSG
    clear hc
    go_wp2_with fail
    go_ret
    exact ⟨S, ret_code (by rw [HSG.out]), by rw [HSG.out]; exact HH.out.below HB1.out, Adv.of_below HB1.out⟩
theorem inv_segAppend (h : Inv A n) (id k : Int) (p : List Int) : Inv (segAppendA A id k p).1 (n + 6) := by
  unfold segAppendA
  split
  · split
    · split
      · exact (inv_sync (inv_append h _ _) _).mono (by omega)
      · exact (inv_append h _ _).mono (by omega)
    · exact h.mono (by omega)
  · exact h.mono (by omega)
end
end Go.Proofs.YtigbgajelkknbaaGreatDoor
namespace Go.Proofs.YtigbgajelkknbaaGreatDoor
open Go.RowKit
set_option maxRecDepth 100000
set_option maxRecDepth 100000

/-- Names of segments, as they lie in memory. -/
def nmV (id : Int) : Value := .string (nameV id)
/-- What 'namesOf' answers. -/
def NamesQ (w : World) (ids : List Int) (e : Ending) (w' : World) : Prop :=
  ((∀ id ∈ ids, codeN id = 0) ∧ ∃ v, e = .returned (.tuple #[v, .int .i64 0]) ∧ w'.ownsRow w.heap.size 9 1 v ids.length (ids.map nmV) ∧ Below w.heap.size w w') ∨
  ((∃ id ∈ ids, codeN id ≠ 0) ∧ e = .returned (.tuple #[.slice none 0 0, .int .i64 1]) ∧ Below w.heap.size w w')
theorem codeN_or (id : Int) : codeN id = 0 ∨ codeN id = 1 := by unfold codeN; split <;> simp
theorem getD_mem {l : List Int} {i : Nat} (h : i < l.length) : l.getD i 0 ∈ l := by
  rw [List.getD_eq_getElem?_getD, List.getElem?_eq_getElem h]; exact List.getElem_mem h
theorem take_succ_getD {l : List Int} {i : Nat} (h : i < l.length) : l.take (i + 1) = l.take i ++ [l.getD i 0] := by
  rw [List.take_succ_eq_append_getElem h, List.getD_eq_getElem?_getD, List.getElem?_eq_getElem h]; rfl
theorem Ints.cells {w : World} {a : Option Addr} {c : Nat} {p : List Int} (h : Ints w (.slice a p.length c) p) (hp : 0 < p.length) :
    ∃ pb po, a = some ⟨pb, po, none⟩ ∧ pb < w.heap.size ∧ ∀ i, i < p.length → w.cell? ⟨pb, po + i, none⟩ = some (.int .i64 (p.getD i 0)) := by
  rcases h with ⟨_, rfl⟩ | ⟨pb, po, cap, hv, hb, hr⟩
  · simp at hp
  · cases hv
    exact ⟨pb, po, rfl, hb, fun i hi => hr i _ (by rw [List.getElem?_map, List.getD_eq_getElem?_getD, List.getElem?_eq_getElem hi]; rfl)⟩

set_option maxHeartbeats 4000000 in
theorem namesOf_any (v : Value) (ids : List Int) (w : World) (ht : Tab w) (h : Ints w v ids) (hl : ids.length ≤ 1000000) :
    Calls Tryz.prog 68 #[v] w (NamesQ w ids) := by
  obtain ⟨va, vc, rfl⟩ := h.slice
  obtain ⟨i0, hi, hz0, hz1, hz2⟩ := info_parts strInfo
  have HI := Lib.hid hi
  have HZ0 := Lib.hid hz0
  have HZ1 := Lib.hid hz1
  have HZ2 := Lib.hid hz2
  have HIN := Lib.hid h
  have HT := Lib.hid ht
  obtain ⟨m, hm⟩ : ∃ m, m = ids.length := ⟨_, rfl⟩
  have HM := Lib.hid hm
  have HL := Lib.hid (show m ≤ 1000000 by omega)
  obtain ⟨ns, hns⟩ : ∃ ns, ns = ids.map nmV := ⟨_, rfl⟩
  have HNS := Lib.hid hns
  rw [← hm]
  clear hns hi hz0 hz1 hz2 h ht hl hm
  have hb16 : Hid (i0.bytes * m ≤ 281474976710656) := by show _ ≤ _; rw [HZ2.out]; have := HL.out; omega
  have hb16b : Hid (m ≤ maxLen) := by show _ ≤ _; have := HL.out; unfold maxLen; omega
  go_enter Tryz.func68, Tryz.ntmps68
  go_wp2_with (first
    | (with_reducible refine wpList_make_own w rfl (.const (.int .i64 0)) (.tmp 10) 105 rfl w.heap.size 9 i0 (.string ⟨#[]⟩) 1 Tryz.underlying105 HI.out HZ0.out HZ1.out .i64 .i64 (m : Int) m rfl rfl rfl hb16.out hb16b.out (Nat.le_refl _) ?_; intro w1 hown1 hg1))
  have hB1 : Below w.heap.size w w1 := (Below.refl _ w).grown hg1 (Nat.le_refl _) fun j hj => by cases hj
  have HOW1 := Lib.hid hown1
  have HB1 := Lib.hid hB1
  clear hown1 hg1 hB1
  try go_frame
  go_loopw [4, 6, 7, 8, 14] (fun s4 _ _ _ s14 wr => ∃ (i : Nat) (g : Option Addr) (c : Nat), i ≤ m ∧ s14 = .int .i64 i ∧ s4 = .slice g i c ∧ wr.ownsRow w.heap.size 9 1 s4 i (ns.take i) ∧ Below w.heap.size w wr ∧ ∀ id ∈ ids.take i, codeN id = 0)
    (fun _ _ _ _ s14 _ => m - (intOf s14).toNat)
  case atStart => exact ⟨0, _, _, Nat.zero_le _, rfl, rfl, by simpa using HOW1.out, HB1.out, fun id hid => by simp at hid⟩
  case round =>
    obtain ⟨i, g, c, him, rfl, rfl, hO, hB, hall⟩ := hrel
    have HO := Lib.hid hO
    have HB := Lib.hid hB
    have HALL := Lib.hid hall
    clear hO hB hall
    have hl1 := HL.out
    by_cases hlt : i < m
    · have l1 : (i : Int) < m := by omega
      obtain ⟨pb, po, rfl, hpb, hcl⟩ := HIN.out.cells (by have := HM.out; omega)
      have c1 : wr.cell? ⟨pb, po + i, none⟩ = some (.int .i64 (ids.getD i 0)) := (HB.out.cell (p := ⟨pb, po + i, none⟩) hpb).trans (hcl i (by have := HM.out; omega))
      have HNM := Lib.hid (name_any (ids.getD i 0) wr (HT.out.below HB.out))
      have HCO := Lib.hid (codeN_or (ids.getD i 0))
      have HMEM := Lib.hid (getD_mem (l := ids) (i := i) (by have := HM.out; omega))
      have HTK := Lib.hid (take_succ_getD (l := ids) (i := i) (by have := HM.out; omega))
      have HTN : Hid (ns.take (i + 1) = ns.take i ++ [nmV (ids.getD i 0)]) := by
        show _ = _
        rw [HNS.out, ← List.map_take, ← List.map_take, HTK.out, List.map_append]; rfl
      obtain ⟨id, hid⟩ : ∃ id, id = ids.getD i 0 := ⟨_, rfl⟩
      rw [← hid] at c1 HNM HCO HMEM HTK HTN
      clear hcl hid
      go_wp2_with fail
      refine HNM.out.mono ?_; rintro e w2 ⟨rfl, hb2⟩
      have HB2 := Lib.hid (HB.out.trans (hb2.mono HB.out.size))
      have HOB : Hid (w2.ownsRow w.heap.size 9 1 (.slice g i c) i (ns.take i)) := ownsRow_to HO.out fun k cur e _ => hb2.block k (heap_lt e)
      clear hb2
      rcases HCO.out with hc | hc
      · have HC := Lib.hid hc
        rw [hc]
        clear hc c1
        have HO2 := Lib.hid (World.ownsRow.alloc HOB.out (.cells #[.string (nameV id)] 9))
        have HLM : Hid (i + 1 ≤ maxLen) := by show _ ≤ _; have := HL.out; unfold maxLen; omega
        have HLB : Hid ((i + 1) * 16 ≤ 140737488355328) := by show _ ≤ _; have := HL.out; omega
        have HON : Hid (∀ u ∈ [Value.string (nameV id)], u.oneCell' = true) := fun u hu => by obtain rfl := List.mem_singleton.1 hu; rfl
        have HSZ : Hid (w.heap.size ≤ w2.heap.size) := HB2.out.size
        have HNMV : Hid (ns.take (i + 1) = ns.take i ++ [Value.string (nameV id)]) := HTN
        clear HTN
        generalize nameV id = nm at *
        go_wp2_with (with_reducible refine wpList_append_own_at _ rfl (.tmp 26) (.tmp 28) 105 rfl w.heap.size 9 i0 (.string ⟨#[]⟩) 1 16 Tryz.underlying105 HI.out HZ0.out HZ1.out HZ2.out rfl (by decide) (.slice g i c) i (ns.take i) rfl HO2.out ⟨w2.heap.size, 0, none⟩ 1 1 [.string nm] rfl rfl (cell_one_new _ _ _) HON.out HLM.out HLB.out (Nat.le_trans HSZ.out (by simp)) ?_)
        intro v' w3 ho3 hg3 _ _
        have hall : w2.grownBy w3 (Value.slice g i c).ownBlock := ⟨hg3.os, hg3.tape, hg3.output, Nat.le_trans (by simp) hg3.size, fun k hk hne => (hg3.block k (by simp; omega) hne).trans (Below.heap_alloc _ _ k hk)⟩
        have hB3 : Below w.heap.size w w3 := HB2.out.grown hall HB2.out.size fun j hj => (HOB.out.lt j hj).1
        obtain ⟨g', c3, rfl⟩ := own_slice ho3
        have HO3 : Hid (w3.ownsRow w.heap.size 9 1 (.slice g' (i + 1) c3) (i + 1) (ns.take (i + 1))) := by show w3.ownsRow _ _ _ _ _ _; rw [HNMV.out]; exact ho3
        have HB3 := Lib.hid hB3
        clear ho3 hg3 hall hB3
        go_wp2_with fail
        go_roundw
        case rel => exact ⟨i + 1, g', c3, by omega, by go_num, rfl, HO3.out, HB3.out, fun x hx => by
          rw [HTK.out] at hx
          rcases List.mem_append.1 hx with hx | hx
          · exact HALL.out x hx
          · obtain rfl := List.mem_singleton.1 hx; exact HC.out⟩
        case measure => simp [intOf]; omega
      · have HC := Lib.hid hc
        rw [hc]
        clear hc c1
        go_wp2_with fail
        go_ret2
        exact .inr ⟨⟨id, HMEM.out, by rw [HC.out]; decide⟩, rfl, HB2.out⟩
    · have l1 : ¬ (i : Int) < m := by omega
      obtain rfl : i = m := by omega
      have HTA : Hid (ids.take i = ids) := by show _ = _; rw [HM.out, List.take_length]
      have HTB : Hid (ns.take i = ns) := by show _ = _; rw [List.take_of_length_le (by rw [HNS.out, List.length_map, ← HM.out]; exact Nat.le_refl _)]
      clear hlt
      go_wp2_with fail
      go_ret2
      exact .inl ⟨fun id hid => HALL.out id (by rw [HTA.out]; exact hid), _, rfl, by have := HO.out; rw [HTB.out, HNS.out] at this; rw [← HM.out]; exact this, HB.out⟩
end Go.Proofs.YtigbgajelkknbaaGreatDoor
