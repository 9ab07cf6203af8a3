/- Package manifest: which of the names are orphans: neither the manifest's nor one of the segments'. Package manifest: Clean: what it makes of a file system, plain; its closure; its steps in turn. Package manifest: Clean: its orphans are removed, and the directory is synced. ManifestCleans: what stands while files are made beside a manifest, and cleaned. Plain; nothing of the program is walked. ManifestCleans, walked: behind a Clean that answers OK there is nothing but the manifest and its segments, each as it was. -/
import Derived.Test.YtkdjkmnalkalpaaGreatDoorMfS
import Derived.Test.YtkdjkmnalkalpaaGreatDoorSgJ
import Derived.Test.YtkdjkmnalkalpaaGreatDoorMfX
import Derived.Test.YtkdjkmnalkalpaaGreatDoorMfK
import Derived.Test.YtkdjkmnalkalpaaGreatDoorMbE
import Derived.Lib.ConvBytes
namespace Go.Proofs.YtkdjkmnalkalpaaGreatDoor
open Go.RowKit Go.Maps Go.WideMaps
set_option maxRecDepth 100000

def TxtAt (w : World) (v : Value) (ss : List ByteArray) : Prop :=
  (v = .slice none 0 0 ∧ ss = []) ∨ ∃ b o cap, v = .slice (some ⟨b, o, none⟩) ss.length cap ∧ b < w.heap.size ∧ ∀ (i : Nat) (s : ByteArray), ss[i]? = some s → ∀ W : World, W.heap[b]? = w.heap[b]? → W.cell? ⟨b, o + i, none⟩ = some (.string s)
theorem TxtAt.slice {w : World} {v : Value} {ss : List ByteArray} (h : TxtAt w v ss) : ∃ a c, v = .slice a ss.length c := by
  rcases h with ⟨rfl, rfl⟩ | ⟨b, o, cap, rfl, _⟩
  · exact ⟨_, _, rfl⟩
  · exact ⟨_, _, rfl⟩
theorem TxtAt.of_own {w : World} {base : Nat} {v : Value} {ss : List ByteArray} (h : w.ownsRow base 9 1 v ss.length (ss.map Value.string)) : TxtAt w v ss := by
  rcases h.2 with ⟨rfl, h0⟩ | ⟨x, cap, cur, rfl, _, hh, h1, h2, h3, h4⟩
  · exact .inl ⟨rfl, List.length_eq_zero_iff.1 h0⟩
  · refine .inr ⟨x, 0, cap, rfl, (Array.getElem?_eq_some_iff.1 hh).1, fun j s hs W hW => ?_⟩
    have hj : j < ss.length := (List.getElem?_eq_some_iff.1 hs).1
    have hu : (ss.map Value.string)[j]? = some (.string s) := by rw [List.getElem?_map, hs]; rfl
    rw [← h4, List.getElem?_take_of_lt (by omega)] at hu
    rw [Nat.zero_add, cell_of_row W x j cur _ _ (hW.trans hh), ← Array.getElem?_toList]
    exact hu
def namedB (ns : List Int) (s : ByteArray) : Bool := ns.any fun j => decide (1 ≤ j ∧ j ≤ 2147483647 ∧ nameV j = s)
def orphB (ns : List Int) (s : ByteArray) : Bool := !decide (s = nMan) && !namedB ns s
def orphL (ns : List Int) (ss : List ByteArray) : List ByteArray := ss.filter (orphB ns)
theorem named_id {ns : List Int} {s : ByteArray} {k : Int} (h : IdOf s k) : (decide (0 < k) && ns.contains k) = namedB ns s := by
  unfold namedB
  rcases h with ⟨k1, k2, hk⟩ | ⟨rfl, hk⟩
  · rw [decide_eq_true (show 0 < k by omega), Bool.true_and]
    cases hc : ns.contains k with
    | true =>
      symm
      rw [List.any_eq_true]
      exact ⟨k, by simpa using hc, by simpa using ⟨k1, k2, hk⟩⟩
    | false =>
      symm
      rw [List.any_eq_false]
      intro j hj
      simp only [decide_eq_true_eq]
      rintro ⟨j1, j2, hje⟩
      have := nameV_inj j1 j2 k1 k2 (hje.trans hk.symm)
      subst this
      have : ns.contains j = true := by simpa using hj
      rw [this] at hc
      cases hc
  · rw [decide_eq_false (show ¬ (0 : Int) < 0 by omega), Bool.false_and]
    symm
    rw [List.any_eq_false]
    intro j _
    simp only [decide_eq_true_eq]
    rintro ⟨j1, j2, hje⟩
    exact hk j j1 j2 hje
theorem nMan_toList : nMan.toList = [109, 97, 110, 105, 102, 101, 115, 116] := by rw [ByteArray.toList_eq]; rfl
theorem orphL_snoc {ns : List Int} {ss : List ByteArray} {i : Nat} {s : ByteArray} (h : ss[i]? = some s) : orphL ns (ss.take (i + 1)) = orphL ns (ss.take i) ++ if orphB ns s = true then [s] else [] := by
  unfold orphL
  obtain ⟨hi, rfl⟩ := List.getElem?_eq_some_iff.1 h
  rw [List.take_succ_eq_append_getElem hi, List.filter_append]
  congr 1
  simp only [List.filter_cons, List.filter_nil]
theorem orphL_le (ns : List Int) (ss : List ByteArray) (i : Nat) : (orphL ns (ss.take i)).length ≤ i := by
  unfold orphL
  have := List.length_filter_le (orphB ns) (ss.take i)
  rw [List.length_take] at this
  omega
set_option maxHeartbeats 8000000 in
theorem orphans_any (v u : Value) (ss : List ByteArray) (ns : List Int) (w : World) (h : TxtAt w v ss) (hss : ∀ s ∈ ss, s.size ≤ 281474976710656) (hl : ss.length ≤ 1000000) (hu : Ints w u ns) (hlu : ns.length ≤ 1000000) (hn : NumL w) :
    Calls Tryz.prog 83 #[v, u] w fun e w' => ∃ x, e = .returned x ∧ w'.ownsRow w.heap.size 9 1 x (orphL ns ss).length ((orphL ns ss).map Value.string) ∧ Below w.heap.size w w' := by
  obtain ⟨va, vc, rfl⟩ := h.slice
  obtain ⟨ua, uc, rfl⟩ := hu.slice
  obtain ⟨i0, hi, hz0, hz1, hz2⟩ := info_parts strInfo
  have HI := Lib.hid hi
  have HZ0 := Lib.hid hz0
  have HZ1 := Lib.hid hz1
  have HZ2 := Lib.hid hz2
  have HT := Lib.hid h
  have HSS := Lib.hid hss
  have HU := Lib.hid hu
  have HN := Lib.hid hn
  obtain ⟨m, hm⟩ : ∃ m, m = ss.length := ⟨_, rfl⟩
  have HM := Lib.hid hm
  have HL := Lib.hid (show m ≤ 1000000 by omega)
  have HLU := Lib.hid hlu
  have HCN := Lib.hid (fun (k : Int) (W : World) (hb : Below w.heap.size w W) => show Calls Tryz.prog 143 #[.slice ua ns.length uc, .int .i64 k] W fun e w' => e = .returned (.bool (ns.contains k)) ∧ w' = W from by
    rcases hu.below hb with ⟨e, h0⟩ | ⟨b, o, cap, e, h1, h2⟩
    · injection e with e1 e2 e3
      subst e1 e3
      rw [h0]
      exact Tryz.slices_Contains_int_empty none 0 k W
    · injection e with e1 e2 e3
      subst e1 e3
      have := Tryz.slices_Contains_int b o ns.length uc ns k W (Nat.le_refl _) (by omega) (fun j hj => h2 j _ (by rw [List.getElem?_map, List.getD_eq_getElem?_getD, List.getElem?_eq_getElem hj]; rfl))
      rwa [List.take_of_length_le (Nat.le_refl _)] at this)
  rw [← hm]
  clear hi hz0 hz1 hz2 h hl hm hss hu hlu hn
  go_enter Tryz.func83, Tryz.ntmps83
  go_wp2_with fail
  go_loopw [5, 7, 8, 9, 12] (fun s5 _ _ _ s12 wr => ∃ (i q : Nat) (xs : List ByteArray) (g : Option Addr) (c : Nat), i ≤ m ∧ s12 = .int .i64 i ∧ xs = orphL ns (ss.take i) ∧ q = xs.length ∧ s5 = .slice g q c ∧ wr.ownsRow w.heap.size 9 1 (.slice g q c) q (xs.map Value.string) ∧ Below w.heap.size w wr)
    (fun _ _ _ _ s12 _ => m - (intOf s12).toNat)
  case atStart => exact ⟨0, 0, [], none, 0, Nat.zero_le _, rfl, by simp [orphL], rfl, rfl, World.ownsRow_nil _ _ _ _, Below.refl _ _⟩
  case round =>
    obtain ⟨i, q, xs, g, c, him, rfl, hxs, hq, rfl, hO, hB⟩ := hrel
    have HO := Lib.hid hO
    have HB := Lib.hid hB
    have HXS := Lib.hid hxs
    have HQ := Lib.hid hq
    have hqi : q ≤ i := by rw [hq, hxs]; exact orphL_le ns ss i
    clear hO hB hxs hq
    have hl1 := HL.out
    by_cases hlt : i < m
    · have l1 : (i : Int) < m := by omega
      have hsi := List.getElem?_eq_getElem (show i < ss.length by have := HM.out; omega)
      have hsz := HSS.out _ (List.getElem_mem (show i < ss.length by have := HM.out; omega))
      generalize ss[i]'(by have := HM.out; omega) = s at hsi hsz
      have HSN := Lib.hid (orphL_snoc (ns := ns) hsi)
      obtain ⟨b, o, rfl, hc⟩ : ∃ b o, va = some ⟨b, o, none⟩ ∧ wr.cell? ⟨b, o + i, none⟩ = some (.string s) := by
        rcases HT.out with ⟨_, h0⟩ | ⟨b, o, cap, e, hb, hc⟩
        · rw [h0] at hsi; cases hsi
        · injection e with e1 e2 e3
          exact ⟨b, o, e1, hc i s hsi wr (HB.out.block b hb)⟩
      have HID := Lib.hid (id_any s wr hsz (HN.out.below HB.out))
      clear hsi hsz
      go_wp2_with fail
      refine HID.out.mono ?_; rintro e w2 ⟨k, rfl, hid, hb2⟩
      have HB2 := Lib.hid (HB.out.trans (hb2.mono HB.out.size))
      have HOB : Hid (w2.ownsRow w.heap.size 9 1 (.slice g q c) q (xs.map Value.string)) := ownsRow_to HO.out fun k cur e _ => hb2.block k (heap_lt e)
      have HNB := Lib.hid (named_id (ns := ns) hid)
      have HCK := Lib.hid (HCN.out k w2 HB2.out)
      clear hb2 hid hc HID HCN HO HB
      have HOR : Hid (orphB ns s = (!decide (s = nMan) && !namedB ns s)) := rfl
      by_cases hnm : s = nMan
      · have l2 : (s.toList == [109, 97, 110, 105, 102, 101, 115, 116]) = true := by rw [hnm, nMan_toList]; rfl
        have HKP : Hid (xs = orphL ns (ss.take (i + 1))) := by
          show _ = _
          rw [HSN.out, HOR.out, decide_eq_true hnm, ← HXS.out]; simp
        clear hnm
        go_wp2_with fail
        go_roundw
        case rel => exact ⟨i + 1, q, xs, g, c, by omega, by go_num, HKP.out, HQ.out, rfl, HOB.out, HB2.out⟩
        case measure => simp [intOf]; omega
      · have l2 : (s.toList == [109, 97, 110, 105, 102, 101, 115, 116]) = false := by rw [← nMan_toList]; exact str_other hnm
        by_cases hk : 0 < k
        · rw [decide_eq_true hk, Bool.true_and] at HNB
          by_cases hct : ns.contains k = true
          · have HKP : Hid (xs = orphL ns (ss.take (i + 1))) := by
              show _ = _
              rw [HSN.out, HOR.out, ← HNB.out, hct, ← HXS.out]; simp
            rw [hct] at HCK
            clear hct hnm
            go_wp2_with fail
            refine HCK.out.mono ?_; rintro e w3 ⟨rfl, rfl⟩
            go_wp2_with fail
            go_roundw
            case rel => exact ⟨i + 1, q, xs, g, c, by omega, by go_num, HKP.out, HQ.out, rfl, HOB.out, HB2.out⟩
            case measure => simp [intOf]; omega
          · have hcf : ns.contains k = false := by simpa using hct
            have HKP : Hid (xs ++ [s] = orphL ns (ss.take (i + 1))) := by
              show _ = _
              rw [HSN.out, HOR.out, ← HNB.out, hcf, decide_eq_false hnm, ← HXS.out]; simp
            rw [hcf] at HCK
            clear hct hcf hnm
            go_wp2_with fail
            refine HCK.out.mono ?_; rintro e w3 ⟨rfl, rfl⟩
            clear HCK
            have HO2 := Lib.hid (World.ownsRow.alloc HOB.out (.cells #[.string s] 9))
            have HLM : Hid (q + 1 ≤ maxLen) := by show _ ≤ _; unfold maxLen; omega
            have HLB : Hid ((q + 1) * 16 ≤ 140737488355328) := by show _ ≤ _; omega
            have HON : Hid (∀ u ∈ [Value.string s], u.oneCell' = true) := fun u hu => by obtain rfl := List.mem_singleton.1 hu; rfl
            have HSZ : Hid (w.heap.size ≤ w3.heap.size) := HB2.out.size
            have HXL : Hid ((xs ++ [s]).length = q + 1) := by show _ = _; rw [List.length_append, ← HQ.out]; rfl
            have HXM : Hid ((xs ++ [s]).map Value.string = xs.map Value.string ++ [Value.string s]) := by show _ = _; simp
            obtain ⟨ys, hys⟩ : ∃ ys, ys = xs ++ [s] := ⟨_, rfl⟩
            rw [← hys] at HXL HXM HKP
            clear hys
            go_wp2_with (with_reducible refine wpList_append_own_at _ rfl (.tmp 32) (.tmp 34) 71 rfl w.heap.size 9 i0 (.string ⟨#[]⟩) 1 16 Tryz.underlying71 HI.out HZ0.out HZ1.out HZ2.out rfl (by decide) (.slice g q c) q (xs.map Value.string) rfl HO2.out ⟨w3.heap.size, 0, none⟩ 1 1 [.string s] rfl rfl (cell_one_new _ _ _) HON.out HLM.out HLB.out (Nat.le_trans HSZ.out (by simp)) ?_)
            intro v' w4 ho4 hg4 _ _
            have hall : w3.grownBy w4 (Value.slice g q c).ownBlock := ⟨hg4.os, hg4.tape, hg4.output, Nat.le_trans (by simp) hg4.size, fun k hk hne => (hg4.block k (by simp; omega) hne).trans (Below.heap_alloc _ _ k hk)⟩
            have hB4 : Below w.heap.size w w4 := HB2.out.grown hall HB2.out.size fun j hj => (HOB.out.lt j hj).1
            obtain ⟨g', c4, rfl⟩ := own_slice ho4
            have HO4 : Hid (w4.ownsRow w.heap.size 9 1 (.slice g' (q + 1) c4) (q + 1) (ys.map Value.string)) := by show w4.ownsRow _ _ _ _ _ _; rw [HXM.out]; exact ho4
            have HB4 := Lib.hid hB4
            clear ho4 hg4 hall hB4
            try go_frame
            go_wp2_with fail
            go_roundw
            case rel => exact ⟨i + 1, q + 1, ys, g', c4, by omega, by go_num, HKP.out, HXL.out.symm, rfl, HO4.out, HB4.out⟩
            case measure => simp [intOf]; omega
        · rw [decide_eq_false hk, Bool.false_and] at HNB
          have HKP : Hid (xs ++ [s] = orphL ns (ss.take (i + 1))) := by
            show _ = _
            rw [HSN.out, HOR.out, ← HNB.out, decide_eq_false hnm, ← HXS.out]; simp
          have hkd : decide (0 < k) = false := decide_eq_false hk
          clear hnm HCK
          have HO2 := Lib.hid (World.ownsRow.alloc HOB.out (.cells #[.string s] 9))
          have HLM : Hid (q + 1 ≤ maxLen) := by show _ ≤ _; unfold maxLen; omega
          have HLB : Hid ((q + 1) * 16 ≤ 140737488355328) := by show _ ≤ _; omega
          have HON : Hid (∀ u ∈ [Value.string s], u.oneCell' = true) := fun u hu => by obtain rfl := List.mem_singleton.1 hu; rfl
          have HSZ : Hid (w.heap.size ≤ w2.heap.size) := HB2.out.size
          have HXL : Hid ((xs ++ [s]).length = q + 1) := by show _ = _; rw [List.length_append, ← HQ.out]; rfl
          have HXM : Hid ((xs ++ [s]).map Value.string = xs.map Value.string ++ [Value.string s]) := by show _ = _; simp
          obtain ⟨ys, hys⟩ : ∃ ys, ys = xs ++ [s] := ⟨_, rfl⟩
          rw [← hys] at HXL HXM HKP
          clear hys
          go_wp2_with (with_reducible refine wpList_append_own_at _ rfl (.tmp 32) (.tmp 34) 71 rfl w.heap.size 9 i0 (.string ⟨#[]⟩) 1 16 Tryz.underlying71 HI.out HZ0.out HZ1.out HZ2.out rfl (by decide) (.slice g q c) q (xs.map Value.string) rfl HO2.out ⟨w2.heap.size, 0, none⟩ 1 1 [.string s] rfl rfl (cell_one_new _ _ _) HON.out HLM.out HLB.out (Nat.le_trans HSZ.out (by simp)) ?_)
          intro v' w4 ho4 hg4 _ _
          have hall : w2.grownBy w4 (Value.slice g q c).ownBlock := ⟨hg4.os, hg4.tape, hg4.output, Nat.le_trans (by simp) hg4.size, fun k hk hne => (hg4.block k (by simp; omega) hne).trans (Below.heap_alloc _ _ k hk)⟩
          have hB4 : Below w.heap.size w w4 := HB2.out.grown hall HB2.out.size fun j hj => (HOB.out.lt j hj).1
          obtain ⟨g', c4, rfl⟩ := own_slice ho4
          have HO4 : Hid (w4.ownsRow w.heap.size 9 1 (.slice g' (q + 1) c4) (q + 1) (ys.map Value.string)) := by show w4.ownsRow _ _ _ _ _ _; rw [HXM.out]; exact ho4
          have HB4 := Lib.hid hB4
          clear ho4 hg4 hall hB4
          try go_frame
          go_wp2_with fail
          go_roundw
          case rel => exact ⟨i + 1, q + 1, ys, g', c4, by omega, by go_num, HKP.out, HXL.out.symm, rfl, HO4.out, HB4.out⟩
          case measure => simp [intOf]; omega
    · obtain rfl : i = m := by omega
      have l1 : ¬ (i : Int) < i := by omega
      have HF : Hid (xs = orphL ns ss) := by show _ = _; rw [HXS.out, List.take_of_length_le (by have := HM.out; omega)]
      go_wp2_with fail
      go_ret
      exact ⟨_, rfl, by rw [← HF.out, ← HQ.out]; exact HO.out, HB.out⟩
end Go.Proofs.YtkdjkmnalkalpaaGreatDoor
namespace Go.Proofs.YtkdjkmnalkalpaaGreatDoor
open Go.RowKit Go.Maps Go.WideMaps
set_option maxRecDepth 100000

def namesB (A : FsA) : List ByteArray := (namesD A.now).map fun l => ⟨l.toArray⟩
def rmsA : List ByteArray → FsA → Nat → FsA × Nat × Int
  | [], A, k => (A, k, 0)
  | s :: r, A, k => if (removeA A s).2 = 0 then rmsA r (removeA A s).1 (k + 1) else ((removeA A s).1, k, (removeA A s).2)
def turnA (L : List ByteArray) (A : FsA) : FsA × Nat × Int :=
  if (rmsA L A 0).2.2 = 0 then ((dirA (rmsA L A 0).1).1, (rmsA L A 0).2.1, (dirA (rmsA L A 0).1).2) else rmsA L A 0
def cleanA (A : FsA) (ns : List Int) : FsA × Nat × Int := if orphL ns (namesB A) = [] then (A, 0, 0) else turnA (orphL ns (namesB A)) A
structure AdvB (b : Nat) (S S' : Nat → Prop) (w w' : World) : Prop where
  size : w.heap.size ≤ w'.heap.size
  block : ∀ k, k < w.heap.size → ¬ S k → k ≠ b → w'.heap[k]? = w.heap[k]?
  more : ∀ k, S' k → S k ∨ w.heap.size ≤ k
section
variable {b k g n : Nat} {S S' S'' : Nat → Prop} {w0 w w' w'' : World} {A : FsA}
theorem AdvB.refl (b : Nat) (S : Nat → Prop) (w : World) : AdvB b S S w w := ⟨Nat.le_refl _, fun _ _ _ _ => rfl, fun _ h => .inl h⟩
theorem AdvB.of (h : Adv S S' w w') : AdvB b S S' w w' := ⟨h.keep.size, fun k hk hS _ => h.keep.block k hk hS, h.more⟩
theorem AdvB.trans (h1 : AdvB b S S' w w') (h2 : AdvB b S' S'' w' w'') : AdvB b S S'' w w'' :=
  ⟨Nat.le_trans h1.size h2.size, fun k hk hS hb => (h2.block k (Nat.lt_of_lt_of_le hk h1.size) (fun e => (h1.more k e).elim hS fun e => by omega) hb).trans (h1.block k hk hS hb),
    fun k hk => (h2.more k hk).elim (h1.more k) fun e => .inr (Nat.le_trans h1.size e)⟩
theorem AdvB.no (h : AdvB b S S' w w') (hk : k < w.heap.size) (hS : ¬ S k) : ¬ S' k := fun e => (h.more k e).elim hS fun e => by omega
theorem AdvB.blk {t : TypeId} {cs : List Value} (h : AdvB b S S' w w') (hb : Blk w k t cs) (hS : ¬ S k) (hn : k ≠ b) : Blk w' k t cs := (h.block k hb.lt hS hn).trans hb
theorem AdvB.set (v : Value) : AdvB b S S w (w.setCell ⟨b, 0, none⟩ v) := ⟨by rw [set_size]; exact Nat.le_refl _, fun k _ _ hn => set_other hn, fun _ h => .inl h⟩
theorem AdvB.adv {W : World} (h : AdvB b S S' W w') (hB : Below w.heap.size w W) (hb : w.heap.size ≤ b) (h1 : Below w0.heap.size w0 w) (h2 : Below w0.heap.size w0 w') : Adv S S' w w' :=
  ⟨⟨h2.os.trans h1.os.symm, h2.tape.trans h1.tape.symm, h2.output.trans h1.output.symm, Nat.le_trans hB.size h.size, fun k hk hS => (h.block k (Nat.lt_of_lt_of_le hk hB.size) hS (by omega)).trans (hB.block k hk)⟩,
    fun k hk => (h.more k hk).imp id fun e => Nat.le_trans hB.size e⟩
theorem PF.box1 (h : PF w0 w g S A) (v : Value) (hn : ¬ S b) (hb : w0.heap.size ≤ b) : PF w0 (w.setCell ⟨b, 0, none⟩ v) g S A := by
  have hB : But w.heap.size b w (w.setCell ⟨b, 0, none⟩ v) := (But.refl _ b _).setCell (p := ⟨b, 0, none⟩) (.inr rfl) _
  exact ⟨h.fs.to (fun _ h => h) fun k hk hl => hB.block k hl fun e => hn (e ▸ hk), fun k hk => ⟨(h.lo k hk).1, Nat.lt_of_lt_of_le (h.lo k hk).2 hB.size⟩,
    h.base.trans ⟨hB.os, hB.tape, hB.output, hB.size, fun k hk => hB.block k (Nat.lt_of_lt_of_le hk h.base.size) (by omega)⟩⟩
end
section
variable {w0 w : World} {g n : Nat} {S : Nat → Prop} {A : FsA} {Bf Bs Bk : Nat}
set_option maxHeartbeats 2000000 in
theorem clean1_pf (s : ByteArray) (k : Nat) (h : PF w0 w g S A) (hI : Inv A n) (hn : n < 90000) (hs : s.size ≤ 9223372036854775807) (hk : k < 1000000)
    (c0 : w.cell? ⟨Bf, 0, none⟩ = some (.pointer (some ⟨g, 0, none⟩))) (c1 : w.cell? ⟨Bs, 0, none⟩ = some (.string s)) (c2 : Blk w Bk 3 [.int .i64 k]) (hno : ¬ S Bk) (hge : w0.heap.size ≤ Bk) :
    Calls Tryz.prog 84 #[.pointer (some ⟨Bf, 0, none⟩), .pointer (some ⟨Bs, 0, none⟩), .pointer (some ⟨Bk, 0, none⟩)] w fun e w' => ∃ S', e = .returned (.int .i64 (removeA A s).2) ∧ PF w0 w' g S' (removeA A s).1 ∧ AdvB Bk S S' w w' ∧
      Blk w' Bk 3 [.int .i64 ((if (removeA A s).2 = 0 then k + 1 else k : Nat) : Int)] := by
  have HR := Lib.hid (remove_pf s h hI hn hs)
  have H2 := Lib.hid c2
  have HNO := Lib.hid hno
  have HGE := Lib.hid hge
  clear h hI hn hs c2 hno hge
  generalize removeA A s = Z at *
  obtain ⟨Z1, c⟩ := Z
  go_enter Tryz.func84, Tryz.ntmps84
  go_wp2_with fail
  refine HR.out.mono ?_; rintro e w1 ⟨S1, rfl, hp, ha⟩
  obtain ⟨hk1, hno1⟩ := ha.blk H2.out HNO.out
  have HP := Lib.hid hp
  have HA := Lib.hid ha
  have HK1 := Lib.hid hk1
  have HN1 := Lib.hid hno1
  have x0 := hk1.cell (i := 0) rfl
  have g0 := hk1.frozen 0
  clear hp ha HR hk1 hno1
  by_cases hc : c = 0
  · subst hc
    go_wp2_with fail
    go_ret
    refine ⟨rfl, S1, HP.out.box1 _ HN1.out HGE.out, (AdvB.of HA.out).trans (AdvB.set _), ?_⟩
    have := HK1.out.set 0 (.int .i64 ((k : Int) + 1))
    simpa using this
  · go_wp2_with fail
    go_ret
    exact ⟨rfl, S1, HP.out, AdvB.of HA.out, HK1.out⟩
def cleanF (Bf Bk : Nat) (b : Nat) : Value := .func (.func 84) #[] #[.pointer (some ⟨Bf, 0, none⟩), .pointer (some ⟨b, 0, none⟩), .pointer (some ⟨Bk, 0, none⟩)]
theorem clean_turn {wI : World} {b o cap : Nat} {t1 t2 : TypeId} (L : List ByteArray) (bs : List Nat) (h : PF w0 wI g S A) (hI : Inv A n) (hn : n + 3 * (L.length + 1) < 90000) (hL : ∀ s ∈ L, s.size ≤ 9223372036854775807)
    (hf : Blk wI Bf t1 [.pointer (some ⟨g, 0, none⟩)]) (hbl : bs.length = L.length) (hs : ∀ i s, L[i]? = some s → Blk wI (bs.getD i 0) t2 [.string s]) (hk : Blk wI Bk 3 [.int .i64 0])
    (hb : b < wI.heap.size) (hrow : ∀ i, i < L.length → wI.cell? ⟨b, o + i, none⟩ = some (cleanF Bf Bk (bs.getD i 0))) (hlast : wI.cell? ⟨b, o + L.length, none⟩ = some (.func (.func 69) #[.pointer (some ⟨g, 0, none⟩)] #[]))
    (hfk : Bf ≠ Bk) (hsk : ∀ i, i < L.length → bs.getD i 0 ≠ Bk) (hbk : b ≠ Bk) (hSb : ¬ S b) (hSf : ¬ S Bf) (hSs : ∀ i, i < L.length → ¬ S (bs.getD i 0)) (hSk : ¬ S Bk) (hge : w0.heap.size ≤ Bk) :
    Calls Tryz.prog 75 #[.slice (some ⟨b, o, none⟩) (L.length + 1) cap] wI fun e w' => ∃ S' A' k c, turnA L A = (A', k, c) ∧ e = .returned (.int .i64 c) ∧ PF w0 w' g S' A' ∧ AdvB Bk S S' wI w' ∧ Blk w' Bk 3 [.int .i64 ((k : Nat) : Int)] ∧ Inv A' (n + 3 * (L.length + 1)) := by
  have hlim : L.length < 30000 := by omega
  refine (inTurn_any b o cap (L.length + 1) wI (by omega)
    (fun i W => ∃ S' A', PF w0 W g S' A' ∧ AdvB Bk S S' wI W ∧ Blk W Bk 3 [.int .i64 ((min i L.length : Nat) : Int)] ∧ Inv A' (n + 3 * i) ∧ (i ≤ L.length → rmsA (L.drop i) A' i = rmsA L A 0) ∧ (i = L.length + 1 → turnA L A = (A', L.length, 0)))
    (fun c W => ∃ S' A' k, turnA L A = (A', k, c) ∧ PF w0 W g S' A' ∧ AdvB Bk S S' wI W ∧ Blk W Bk 3 [.int .i64 ((k : Nat) : Int)] ∧ Inv A' (n + 3 * (L.length + 1)))
    ⟨S, A, h, AdvB.refl _ _ _, by simpa using hk, hI, fun _ => by simp, fun e => by omega⟩ ?_).mono ?_
  · rintro i W hi ⟨S', A', hpf, hadv, hkb, hinv, hrun, _⟩
    have hcell : ∀ j x, wI.cell? ⟨b, o + j, none⟩ = some x → W.cell? ⟨b, o + j, none⟩ = some x := fun j x hx => by rw [World.cell?_of_block (w := wI) (hadv.block b hb hSb hbk)]; exact hx
    by_cases hlt : i < L.length
    · have hsi := List.getElem?_eq_getElem hlt
      have hdr : L.drop i = L[i] :: L.drop (i + 1) := List.drop_eq_getElem_cons hlt
      have hsz := hL _ (List.getElem_mem hlt)
      generalize L[i] = s at hsi hdr hsz
      have hr := hrun (by omega)
      rw [hdr] at hr
      rw [show min i L.length = i by omega] at hkb
      refine ⟨_, hcell i _ (hrow i hlt), _, _, _, rfl, enters_of Tryz.func84 (by kernel_rfl) rfl, (clean1_pf (Bf := Bf) (Bs := bs.getD i 0) (Bk := Bk) s i hpf hinv (by omega) hsz (by omega) ((hadv.blk hf hSf hfk).cell (i := 0) rfl) ((hadv.blk (hs i s hsi) (hSs i hlt) (hsk i hlt)).cell (i := 0) rfl) hkb (hadv.no hk.lt hSk) hge).mono ?_⟩
      rintro e w' ⟨S1, rfl, hp1, ha1, hk1⟩
      refine ⟨_, rfl, fun h0 => ⟨S1, _, hp1, hadv.trans ha1, ?_, (inv_remove hinv s).mono (by omega), fun _ => ?_, fun e => by omega⟩, fun h0 => ⟨S1, _, i, ?_, hp1, hadv.trans ha1, ?_, (inv_remove hinv s).mono (by omega)⟩⟩
      · rw [if_pos h0] at hk1
        rw [show min (i + 1) L.length = i + 1 by omega]
        exact hk1
      · rw [← hr]
        show _ = rmsA (s :: L.drop (i + 1)) A' i
        rw [rmsA, if_pos h0]
      · have e : rmsA L A 0 = ((removeA A' s).1, i, (removeA A' s).2) := by
          rw [← hr]
          show rmsA (s :: L.drop (i + 1)) A' i = _
          rw [rmsA, if_neg h0]
        unfold turnA
        rw [e, if_neg h0]
      · rw [if_neg h0] at hk1
        exact hk1
    · obtain rfl : i = L.length := by omega
      have hr := hrun (Nat.le_refl _)
      rw [List.drop_length] at hr
      rw [show min L.length L.length = L.length by omega] at hkb
      have e : rmsA L A 0 = (A', L.length, 0) := hr.symm
      refine ⟨_, hcell _ _ hlast, _, _, _, rfl, enters_of Tryz.func69 (by kernel_rfl) rfl, (dir_pf hpf hinv (by omega)).mono ?_⟩
      rintro e1 w' ⟨S1, rfl, hp1, ha1⟩
      have hk1 := (ha1.blk hkb (hadv.no hk.lt hSk)).1
      refine ⟨_, rfl, fun h0 => ⟨S1, _, hp1, hadv.trans (AdvB.of ha1), ?_, (inv_dir hinv).mono (by omega), fun e => by omega, fun _ => ?_⟩, fun h0 => ⟨S1, _, L.length, ?_, hp1, hadv.trans (AdvB.of ha1), hk1, (inv_dir hinv).mono (by omega)⟩⟩
      · rw [show min (L.length + 1) L.length = L.length by omega]
        exact hk1
      · unfold turnA
        rw [e, if_pos rfl, h0]
      · unfold turnA
        rw [e, if_pos rfl]
  · rintro e w' ⟨c, rfl, ⟨rfl, S', A', hpf, hadv, hkb, hinv, _, hrun⟩ | ⟨_, S', A', k, hrun, hpf, hadv, hkb, hinv⟩⟩
    · rw [show min (L.length + 1) L.length = L.length by omega] at hkb
      exact ⟨S', A', L.length, 0, hrun rfl, rfl, hpf, hadv, hkb, hinv⟩
    · exact ⟨S', A', k, c, hrun, rfl, hpf, hadv, hkb, hinv⟩
end
end Go.Proofs.YtkdjkmnalkalpaaGreatDoor
namespace Go.Proofs.YtkdjkmnalkalpaaGreatDoor
open Go.RowKit Go.Maps Go.WideMaps
set_option maxRecDepth 100000

def CleanQ (w0 w : World) (g n : Nat) (S : Nat → Prop) (A : FsA) (v : Int) (ns : List Int) (e : Ending) (w' : World) : Prop :=
  ∃ A' k c, Inv A' (n + 3 * ((namesB A).length + 1)) ∧ Done w0 w g S A' (.tuple #[.int .i64 ((k : Nat) : Int), .int .i64 c]) e w' ∧ ((GoodM v ns ∧ cleanA A ns = (A', k, c)) ∨ (¬ GoodM v ns ∧ A' = A ∧ k = 0 ∧ c = 1))
theorem cleanInfo : (Tryz.prog.info? 65).map (fun i => (i.zero, i.size, i.bytes)) = some (some .nilFunc, 1, 8) := by kernel_rfl
theorem namesB_enc (A : FsA) : (namesD A.now).map Go.Proofs.encStr = (namesB A).map Value.string := by
  unfold namesB
  rw [List.map_map]
  rfl
theorem namesB_size {A : FsA} {n : Nat} (hI : Inv A n) : ∀ s ∈ namesB A, s.size ≤ 20 := by
  intro s hs
  obtain ⟨l, hl, rfl⟩ := List.mem_map.1 hs
  obtain ⟨b, f, _, _, h3⟩ := name_file hI.okNow hl
  show l.toArray.size ≤ 20
  simpa using h3
theorem namesB_length {A : FsA} {n : Nat} (hI : Inv A n) : (namesB A).length ≤ n := by
  unfold namesB
  rw [List.length_map, names_size hI.tidyNow.isMap]
  exact hI.sizeNow
theorem orphL_length (ns : List Int) (ss : List ByteArray) : (orphL ns ss).length ≤ ss.length := List.length_filter_le _ _
theorem own_ne {w : World} {base e size b : Nat} {t : TypeId} {v : Value} {n : Nat} {xs cs : List Value} (h : w.ownsRow base e size v n xs) (hb : Blk w b t cs) (hne : t ≠ e) : v.ownBlock ≠ some b := by
  rcases h.2 with ⟨rfl, _⟩ | ⟨x, cap, cur, rfl, _, hh, _⟩
  · simp [Value.ownBlock]
  · intro k
    have k' : x = b := by simpa [Value.ownBlock] using k
    subst k'
    have := hh.symm.trans hb
    injection this with this
    injection this with _ h2
    exact hne h2.symm
theorem own_cell1 {w : World} {base e : Nat} {g : Option Addr} {n c j : Nat} {xs : List Value} {v : Value} (h : w.ownsRow base e 1 (.slice g n c) n xs) (hv : xs[j]? = some v) (hj : j < n) : ∃ x, g = some ⟨x, 0, none⟩ ∧ base ≤ x ∧ x < w.heap.size ∧ w.cell? ⟨x, j, none⟩ = some v := by
  rcases h.2 with ⟨h1, h0⟩ | ⟨x, cap, cur, h1, h2, hh, h3, _, h5, h6⟩
  · omega
  · injection h1 with e1 e2 e3
    refine ⟨x, e1, h2, (Array.getElem?_eq_some_iff.1 hh).1, ?_⟩
    rw [← h6, List.getElem?_take_of_lt (by omega)] at hv
    rw [cell_of_row w x j cur _ _ hh, ← Array.getElem?_toList]
    exact hv
set_option maxHeartbeats 1000000 in
theorem inTurn_none (a : Option Addr) (cap : Nat) (w : World) : Calls Tryz.prog 75 #[.slice a 0 cap] w fun e w' => e = .returned (.int .i64 0) ∧ w' = w := by
  go_enter Tryz.func75, Tryz.ntmps75
  go_wp2_with fail
  go_loopw [8] (fun s8 wr => s8 = .int .i64 0 ∧ wr = w) (fun _ _ => 0)
  case atStart => exact ⟨rfl, rfl⟩
  case round =>
    obtain ⟨rfl, rfl⟩ := hrel
    go_wp2_with fail
    go_ret
    exact ⟨rfl, rfl⟩
section
variable {w0 w : World} {g n : Nat} {S : Nat → Prop} {A : FsA}
set_option maxHeartbeats 16000000 in
theorem clean_pf (v : Int) (u : Value) (ns : List Int) (h : PF w0 w g S A) (hI : Inv A n) (hn : n + 3 * ((namesB A).length + 1) < 90000) (hL : NumL w0) (hu : IntsW w u ns) (hl : ns.length < 9223372036854775808) :
    Calls Tryz.prog 21 #[.pointer (some ⟨g, 0, none⟩), .agg #[.int .i64 v, u]] w (CleanQ w0 w g n S A v ns) := by
  obtain ⟨ua, uc, rfl⟩ := hu.slice
  obtain ⟨wx, hwx⟩ : ∃ wx, wx = (w.alloc (.cells #[.pointer (some ⟨g, 0, none⟩)] 24)).alloc (.cells #[.int .i64 v, .slice ua ns.length uc] 37) := ⟨_, rfl⟩
  have hbx : Below w.heap.size w wx := by rw [hwx]; exact ((Below.refl _ _).alloc (Nat.le_refl _) _).alloc (by simp) _
  have hkf : Blk wx w.heap.size 24 [.pointer (some ⟨g, 0, none⟩)] := by rw [hwx]; exact blk_stay ((Below.refl _ _).alloc (Nat.le_refl _) _) (Blk.new w _ _)
  have hkm : Blk wx (w.heap.size + 1) 37 [.int .i64 v, .slice ua ns.length uc] := by
    rw [hwx]
    have := Blk.new (w.alloc (.cells #[.pointer (some ⟨g, 0, none⟩)] 24)) 37 [.int .i64 v, .slice ua ns.length uc]
    rw [World.size_alloc] at this
    exact this
  have HEN := Lib.hid (check_any v (.slice ua ns.length uc) ns wx (hu.below hbx) hl ((hL.tab.below h.base).below hbx))
  have HH := Lib.hid h
  have HI := Lib.hid hI
  have HN := Lib.hid hn
  have HU := Lib.hid hu
  have HLL := Lib.hid hL
  have HBX := Lib.hid hbx
  have HKF := Lib.hid hkf
  have HKM := Lib.hid hkm
  clear h hI hu hbx hkf hkm hL hn
  go_enter Tryz.func21, Tryz.ntmps21
  go_upto_region 1 with fail
  rw [← hwx]
  clear hwx
  have m0 := HKM.out.cell (i := 0) rfl
  have m1 := HKM.out.cell (i := 1) rfl
  go_wp2_with fail
  refine HEN.out.mono ?_; rintro e w1 ⟨rfl, hb1⟩
  have HB1 := Lib.hid (HBX.out.trans (hb1.mono HBX.out.size))
  have HK1 := Lib.hid (blk_stay hb1 HKF.out)
  have HM1 := Lib.hid (blk_stay hb1 HKM.out)
  have hz1 : w.heap.size + 2 ≤ w1.heap.size := by have := HKM.out.lt; have := hb1.size; omega
  have HZ1 := Lib.hid hz1
  clear hb1 HKF HKM HEN m0 m1 hz1 HBX
  by_cases hg : GoodM v ns
  · have hcz : codeM v ns = 0 := by unfold codeM; rw [if_pos hg]
    rw [hcz]
    have HG := Lib.hid hg
    clear hcz hg
    go_upto_region 5 with fail
    refine Fr.wp_world fun w2 hw2 => ?_
    have hb12 : Below w1.heap.size w1 w2 := by rw [hw2]; exact (Below.refl _ _).alloc (Nat.le_refl _) _
    have hkb : Blk w2 w1.heap.size 3 [.int .i64 0] := by rw [hw2]; exact Blk.new w1 _ _
    obtain ⟨bk, hbk⟩ : ∃ bk, bk = w1.heap.size := ⟨_, rfl⟩
    have HZB : Hid (w.heap.size + 2 ≤ bk) := by show _ ≤ _; rw [hbk]; exact HZ1.out
    rw [← hbk] at hkb
    try rw [← hbk]
    have HB2 := Lib.hid (HB1.out.trans (hb12.mono HB1.out.size))
    have HK2 := Lib.hid (blk_stay hb12 HK1.out)
    have HM2 := Lib.hid (blk_stay hb12 HM1.out)
    have HKB := Lib.hid hkb
    clear hw2 hb12 hkb hbk HB1 HK1 HM1 HZ1
    obtain ⟨bf, hbf⟩ : ∃ bf, bf = w.heap.size := ⟨_, rfl⟩
    have HBF := Lib.hid hbf
    have HGT : Hid (IntsW w2 (.slice ua ns.length uc) ns) := HU.out.below HB2.out
    have hu2 := HGT.out.ints HG.out.2.1.1
    have hns := HG.out.2.1.2
    have HSK : Hid (∀ W : World, Below w2.heap.size w2 W → W.cell? ⟨bf, 0, none⟩ = some (.pointer (some ⟨g, 0, none⟩)) ∧ W.cell? ⟨bf + 1, 1, none⟩ = some (.slice ua ns.length uc)) := by
      show ∀ W : World, _
      rw [hbf]
      exact fun W hW => ⟨(blk_stay hW HK2.out).cell (i := 0) rfl, (blk_stay hW HM2.out).cell (i := 1) rfl⟩
    have HLI := Lib.hid (fun (W : World) (hW : Below w2.heap.size w2 W) => list_any g S A W (HH.out.fs.below (HB2.out.trans (hW.mono HB2.out.size))) (by have := HI.out.sizeNow; have := HN.out; omega))
    have HOR := Lib.hid (fun (W : World) (hW : Below w2.heap.size w2 W) (lv : Value) (hlo : TxtAt W lv (namesB A)) => orphans_any lv (.slice ua ns.length uc) (namesB A) ns W hlo (fun s hs => by have := namesB_size HI.out s hs; omega) (by have := namesB_length HI.out; have := HN.out; omega) (hu2.below hW) (by omega) (HLL.out.below ((HH.out.base.trans (HB2.out.mono HH.out.base.size)).trans (hW.mono ((HH.out.base.trans (HB2.out.mono HH.out.base.size)).size)))))
    have HBD := Lib.hid (⟨rfl, rfl, rfl, Nat.le_refl _, fun _ _ => rfl⟩ : Below w2.heap.size w2 w2.drew)
    have HLO : Hid (∀ (W : World) (B : Nat) (la : Option Addr) (lc m : Nat), W.ownsRow B 9 1 (.slice la m lc) m ((namesD A.now).map Go.Proofs.encStr) → m = (namesD A.now).length → TxtAt W (.slice la m lc) (namesB A)) := fun W B la lc m h e => TxtAt.of_own (by
      rw [namesB_enc] at h
      rw [show (namesB A).length = m by rw [e]; unfold namesB; simp]
      exact h)
    rw [← hbf]
    clear hu2 hns hbf
    go_upto_region 6 with fail
    go_region_held_law (fun W : World => W.cell? ⟨bf, 0, none⟩ = some (.pointer (some ⟨g, 0, none⟩)) ∧ W.cell? ⟨bf + 1, 1, none⟩ = some (.slice ua ns.length uc))
      (first | exact HSK.out _ HBD.out | exact HSK.out _ (HBD.out.trans (hb3.mono HBD.out.size)) | exact HSK.out _ (hb24.trans (hb4.mono hb24.size)))
      (first | (go_simp; go_at_call 36; refine (HLI.out _ HBD.out).mono ?_; rintro e w3 ⟨lv, rfl, hlo, hb3⟩; obtain ⟨la, lc, rfl⟩ := own_slice hlo; have hb24 := HBD.out.trans (hb3.mono HBD.out.size)) | (go_simp; go_at_call 83; refine (HOR.out _ hb24 _ (HLO.out _ _ _ _ _ hlo rfl)).mono ?_; rintro e w4 ⟨xv, rfl, hxo, hb4⟩; obtain ⟨xa, xc, rfl⟩ := own_slice hxo))
    have HT4 := Lib.hid (TxtAt.of_own hxo)
    have hb24' : Below w2.heap.size w2 w4 := hb24.trans (hb4.mono hb24.size)
    have HB4 := Lib.hid (HB2.out.trans (hb24'.mono HB2.out.size))
    have HK4 : Hid (Blk w4 bf 24 [.pointer (some ⟨g, 0, none⟩)]) := by show Blk _ _ _ _; rw [HBF.out]; exact blk_stay hb24' HK2.out
    have HKB4 := Lib.hid (blk_stay hb24' HKB.out)
    have HBK4 : Hid (bk < w4.heap.size) := HKB4.out.lt
    have HBFK : Hid (bf + 2 ≤ bk) := by show _ ≤ _; rw [HBF.out]; exact HZB.out
    have HLQ : Hid ((orphL ns (namesB A)).length ≤ (namesB A).length) := orphL_length _ _
    have HLS : Hid (∀ s ∈ orphL ns (namesB A), s.size ≤ 20) := fun s hs => namesB_size HI.out s (List.mem_filter.1 hs).1
    have HCL : Hid (cleanA A ns = if orphL ns (namesB A) = [] then (A, 0, 0) else turnA (orphL ns (namesB A)) A) := rfl
    obtain ⟨L, hL⟩ : ∃ L, L = orphL ns (namesB A) := ⟨_, rfl⟩
    obtain ⟨q, hq⟩ : ∃ q, q = L.length := ⟨_, rfl⟩
    rw [← hL] at HT4 HLQ HLS HCL ⊢
    rw [← hq] at HLQ ⊢
    have HQ := Lib.hid hq
    have hq9 : q < 90000 := by have := HN.out; have := HLQ.out; omega
    have HQ9 := Lib.hid hq9
    obtain ⟨i0, hi, hz0, hz1, hz2⟩ := info_parts cleanInfo
    have HI0 := Lib.hid hi
    have HZ0 := Lib.hid hz0
    have HZ1 := Lib.hid hz1
    have HZ2 := Lib.hid hz2
    clear hxo hlo hb3 hb4 hb24 hb24' HOR HLI HSK HLO HGT HK2 HM2 HKB HB2 hL hq hi hz0 hz1 hz2 HBD hq9
    go_simp
    go_wp2_with fail
    go_loopw [8, 10, 23] (fun s8 _ s23 wr => ∃ (i : Nat) (bs : List Nat) (g' : Option Addr) (c : Nat), i ≤ q ∧ s23 = .int .i64 i ∧ s8 = .slice g' i c ∧ wr.ownsRow w4.heap.size 65 1 (.slice g' i c) i (bs.map (cleanF bf bk)) ∧ bs.length = i ∧ (∀ j s, j < i → L[j]? = some s → Blk wr (bs.getD j 0) 9 [.string s]) ∧ (∀ x ∈ bs, w4.heap.size ≤ x) ∧ Below w4.heap.size w4 wr)
      (fun _ _ s23 _ => q - (intOf s23).toNat)
    case atStart => exact ⟨0, [], none, 0, Nat.zero_le _, rfl, rfl, World.ownsRow_nil _ _ _ _, rfl, (fun j s hj => by omega), (fun x hx => by cases hx), Below.refl _ _⟩
    case round =>
      obtain ⟨i, bs, g', c, hiq, rfl, rfl, hO, hbl, hbs, hge, hB⟩ := hrel
      have HO := Lib.hid hO
      have HBL := Lib.hid hbl
      have HBS := Lib.hid hbs
      have HGE := Lib.hid hge
      have HB := Lib.hid hB
      clear hO hbl hbs hge hB
      have hq9 := HQ9.out
      by_cases hlt : i < q
      · have l1 : (i : Int) < q := by omega
        have hsi := List.getElem?_eq_getElem (show i < L.length by have := HQ.out; omega)
        generalize L[i]'(by have := HQ.out; omega) = s at hsi
        obtain ⟨tb, o, rfl, hc⟩ : ∃ tb o, xa = some ⟨tb, o, none⟩ ∧ wr.cell? ⟨tb, o + i, none⟩ = some (.string s) := by
          rcases HT4.out with ⟨_, h0⟩ | ⟨tb, o, cap, e, hb, hc⟩
          · rw [h0] at hsi; cases hsi
          · injection e with e1 e2 e3
            exact ⟨tb, o, e1, hc i s hsi wr (HB.out.block tb hb)⟩
        have HSI := Lib.hid hsi
        clear hsi
        go_upto_region 9 with fail
        refine Fr.wp_world fun w5 hw5 => ?_
        have hb5 : Below wr.heap.size wr w5 := by rw [hw5]; exact (Below.refl _ _).alloc (Nat.le_refl _) _
        have hk5 : Blk w5 wr.heap.size 9 [.string s] := by rw [hw5]; exact Blk.new wr _ _
        have ho5 : w5.ownsRow w4.heap.size 65 1 (.slice g' i c) i (bs.map (cleanF bf bk)) := by rw [hw5]; exact World.ownsRow.alloc HO.out _
        have hg5 : w4.heap.size ≤ wr.heap.size := HB.out.size
        have hs5 : wr.heap.size < w5.heap.size := hk5.lt
        obtain ⟨b5, hb5e⟩ : ∃ b5, b5 = wr.heap.size := ⟨_, rfl⟩
        rw [← hb5e] at hk5 hg5 hs5
        try rw [← hb5e]
        have HK5 := Lib.hid hk5
        have HG5 := Lib.hid hg5
        have HO5 := Lib.hid ho5
        have HB5 := Lib.hid (HB.out.trans (hb5.mono HB.out.size))
        have HBS5 : Hid (∀ j s, j < i → L[j]? = some s → Blk w5 (bs.getD j 0) 9 [.string s]) := fun j s hj hs => blk_stay hb5 (HBS.out j s hj hs)
        have HO6 := Lib.hid (World.ownsRow.alloc ho5 (.cells #[(.func (.func 84) #[] #[.pointer (some ⟨bf, 0, none⟩), .pointer (some ⟨b5, 0, none⟩), .pointer (some ⟨bk, 0, none⟩)] : Value)] 65))
        have HON : Hid (∀ u ∈ [(.func (.func 84) #[] #[.pointer (some ⟨bf, 0, none⟩), .pointer (some ⟨b5, 0, none⟩), .pointer (some ⟨bk, 0, none⟩)] : Value)], u.oneCell' = true) := fun u hu => by obtain rfl := List.mem_singleton.1 hu; rfl
        have HLM : Hid (i + 1 ≤ maxLen) := by show _ ≤ _; unfold maxLen; omega
        have HLB : Hid ((i + 1) * 8 ≤ 140737488355328) := by show _ ≤ _; omega
        have HSZ : Hid (w4.heap.size ≤ w5.heap.size) := HB5.out.size
        clear hw5 hb5 hk5 ho5 hg5 hs5 hb5e hc HO HBS HB
        go_wp2_with (with_reducible refine wpList_append_own_at _ rfl (.tmp 27) (.tmp 29) 146 rfl w4.heap.size 65 i0 .nilFunc 1 8 Tryz.underlying146 HI0.out HZ0.out HZ1.out HZ2.out rfl (by decide) (.slice g' i c) i (bs.map (cleanF bf bk)) rfl HO6.out ⟨w5.heap.size, 0, none⟩ 1 1 [(.func (.func 84) #[] #[.pointer (some ⟨bf, 0, none⟩), .pointer (some ⟨b5, 0, none⟩), .pointer (some ⟨bk, 0, none⟩)] : Value)] rfl rfl (cell_one_new _ _ _) HON.out HLM.out HLB.out (Nat.le_trans HSZ.out (by simp)) ?_)
        intro v' w6 ho6 hg6 _ _
        have hall : w5.grownBy w6 (Value.slice g' i c).ownBlock := ⟨hg6.os, hg6.tape, hg6.output, Nat.le_trans (by simp) hg6.size, fun k hk hne => (hg6.block k (by simp; omega) hne).trans (Below.heap_alloc _ _ k hk)⟩
        have hB6 : Below w4.heap.size w4 w6 := HB5.out.grown hall HB5.out.size fun j hj => (HO5.out.lt j hj).1
        obtain ⟨g6, c6, rfl⟩ := own_slice ho6
        have hkeep : ∀ (x : Nat) (s : ByteArray), Blk w5 x 9 [.string s] → Blk w6 x 9 [.string s] := fun x s h => (hall.block x h.lt (own_ne HO5.out h (by decide)).symm).trans h
        have HO7 : Hid (w6.ownsRow w4.heap.size 65 1 (.slice g6 (i + 1) c6) (i + 1) ((bs ++ [b5]).map (cleanF bf bk))) := by
          show w6.ownsRow _ _ _ _ _ _
          rw [List.map_append]
          exact ho6
        have HBS7 : Hid (∀ j s, j < i + 1 → L[j]? = some s → Blk w6 ((bs ++ [b5]).getD j 0) 9 [.string s]) := by
          show ∀ j s, _ → _ → _
          intro j t hj ht
          have hbl := HBL.out
          by_cases hji : j < i
          · rw [show (bs ++ [b5]).getD j 0 = bs.getD j 0 by rw [List.getD_eq_getElem?_getD, List.getD_eq_getElem?_getD, List.getElem?_append_left (by omega)]]
            exact hkeep _ _ (HBS5.out j t hji ht)
          · obtain rfl : j = i := by omega
            rw [show (bs ++ [b5]).getD j 0 = b5 by rw [List.getD_eq_getElem?_getD, List.getElem?_append_right (by omega), hbl, Nat.sub_self]; rfl]
            have e := HSI.out.symm.trans ht
            cases e
            exact hkeep _ _ HK5.out
        have HGE7 : Hid (∀ x ∈ bs ++ [b5], w4.heap.size ≤ x) := fun x hx => by
          rcases List.mem_append.1 hx with h | h
          · exact HGE.out x h
          · rw [List.mem_singleton] at h; rw [h]; exact HG5.out
        have HBL7 : Hid ((bs ++ [b5]).length = i + 1) := by show _ = _; rw [List.length_append, HBL.out]; rfl
        have HB7 := Lib.hid hB6
        clear ho6 hg6 hall hB6 hkeep HO6 HON HLM HLB HSZ HO5 HBS5 HB5
        obtain ⟨bs7, hbs7⟩ : ∃ bs7, bs7 = bs ++ [b5] := ⟨_, rfl⟩
        rw [← hbs7] at HO7 HBS7 HGE7 HBL7
        clear hbs7
        try go_frame
        go_wp2_with fail
        go_roundw
        case rel => exact ⟨i + 1, bs7, g6, c6, by omega, by go_num, rfl, HO7.out, HBL7.out, HBS7.out, HGE7.out, HB7.out⟩
        case measure => simp [intOf]; omega
      · obtain rfl : i = q := by omega
        have l1 : ¬ (i : Int) < i := by omega
        have HBW := Lib.hid (HB4.out.trans (HB.out.mono HB4.out.size))
        have HKW := Lib.hid (blk_stay HB.out HK4.out)
        have HKK := Lib.hid (blk_stay HB.out HKB4.out)
        have k0 := HKK.out.cell (i := 0) rfl
        have f0 := HKW.out.cell (i := 0) rfl
        clear hlt hiq
        by_cases hq0 : i = 0
        · subst hq0
          have HE : Hid (cleanA A ns = (A, 0, 0)) := by show _ = _; rw [HCL.out, if_pos (List.length_eq_zero_iff.1 HQ.out.symm)]
          clear l1
          go_wp2_with fail
          refine (inTurn_none _ _ _).mono ?_; rintro e w7 ⟨rfl, rfl⟩
          go_wp2_with fail
          go_ret2
          exact ⟨A, 0, 0, HI.out.mono (by omega), ⟨S, rfl, HH.out.below HBW.out, Adv.of_below HBW.out⟩, .inl ⟨HG.out, HE.out⟩⟩
        · have l2 : (i : Int) > 0 := by omega
          have HE : Hid (cleanA A ns = turnA L A) := by show _ = _; rw [HCL.out, if_neg (fun e => hq0 (by rw [HQ.out, e]; rfl))]
          have HO6 := Lib.hid (World.ownsRow.alloc HO.out (.cells #[(.func (.func 69) #[.pointer (some ⟨g, 0, none⟩)] #[] : Value)] 65))
          have HON : Hid (∀ u ∈ [(.func (.func 69) #[.pointer (some ⟨g, 0, none⟩)] #[] : Value)], u.oneCell' = true) := fun u hu => by obtain rfl := List.mem_singleton.1 hu; rfl
          have HLM : Hid (i + 1 ≤ maxLen) := by show _ ≤ _; unfold maxLen; omega
          have HLB : Hid ((i + 1) * 8 ≤ 140737488355328) := by show _ ≤ _; omega
          have HSZ : Hid (w4.heap.size ≤ wr.heap.size) := HB.out.size
          clear hq0
          go_wp2_with (with_reducible refine wpList_append_own_at _ rfl (.tmp 35) (.tmp 38) 146 rfl w4.heap.size 65 i0 .nilFunc 1 8 Tryz.underlying146 HI0.out HZ0.out HZ1.out HZ2.out rfl (by decide) (.slice g' i c) i (bs.map (cleanF bf bk)) rfl HO6.out ⟨wr.heap.size, 0, none⟩ 1 1 [(.func (.func 69) #[.pointer (some ⟨g, 0, none⟩)] #[] : Value)] rfl rfl (cell_one_new _ _ _) HON.out HLM.out HLB.out (Nat.le_trans HSZ.out (by simp)) ?_)
          intro v' w6 ho6 hg6 _ _
          have hall : wr.grownBy w6 (Value.slice g' i c).ownBlock := ⟨hg6.os, hg6.tape, hg6.output, Nat.le_trans (by simp) hg6.size, fun k hk hne => (hg6.block k (by simp; omega) hne).trans (Below.heap_alloc _ _ k hk)⟩
          have hB6 : Below w4.heap.size w4 w6 := HB.out.grown hall HB.out.size fun j hj => (HO.out.lt j hj).1
          obtain ⟨g6, c6, rfl⟩ := own_slice ho6
          have hkeep : ∀ (x : Nat) (s : ByteArray), Blk wr x 9 [.string s] → Blk w6 x 9 [.string s] := fun x s h => (hall.block x h.lt (own_ne HO.out h (by decide)).symm).trans h
          have hbl := HBL.out
          obtain ⟨x, rfl, hxb, hxs, hxl⟩ := own_cell1 (j := i) (v := (.func (.func 69) #[.pointer (some ⟨g, 0, none⟩)] #[] : Value)) ho6 (by rw [List.getElem?_append_right (by simp [hbl]), List.length_map, hbl, Nat.sub_self]; rfl) (by omega)
          have hno : ∀ k, w.heap.size ≤ k → ¬ S k := fun k hk hS => by have := (HH.out.lo k hS).2; omega
          have hb46 := HB4.out.size
          have hbk4 := HBK4.out
          have hfk := HBFK.out
          have hbfe := HBF.out
          have hq := HQ.out
          have hbase := HH.out.base.size
          have hmem : ∀ j, j < L.length → w4.heap.size ≤ bs.getD j 0 := fun j hj => HGE.out _ (by rw [List.getD_eq_getElem?_getD, List.getElem?_eq_getElem (by omega)]; exact List.getElem_mem _)
          have HT := clean_turn (w0 := w0) (g := g) (n := n) (S := S) (A := A) (Bf := bf) (Bk := bk) (wI := w6) (b := x) (o := 0) (cap := c6) L bs (HH.out.below (HB4.out.trans (hB6.mono HB4.out.size))) HI.out
            (by have := HN.out; have := HLQ.out; omega) (fun s hs => by have := HLS.out s hs; omega) (blk_stay hB6 HK4.out) (by omega) (fun j s hj => hkeep _ _ (HBS.out j s (by have := (List.getElem?_eq_some_iff.1 hj).1; omega) hj)) (blk_stay hB6 HKB4.out) hxs
            (fun j hj => by
              obtain ⟨y, hy, _, _, hyl⟩ := own_cell1 (j := j) (v := cleanF bf bk (bs.getD j 0)) ho6 (by rw [List.getElem?_append_left (by simp; omega), List.getElem?_map, List.getD_eq_getElem?_getD, List.getElem?_eq_getElem (by omega)]; rfl) (by omega)
              cases hy
              rw [Nat.zero_add]
              exact hyl)
            (by rw [Nat.zero_add, ← hq]; exact hxl) (by omega) (fun j hj => by have := hmem j hj; omega) (by omega) (hno _ (by omega)) (hno _ (by omega)) (fun j hj => hno _ (by have := hmem j hj; omega)) (hno _ (by omega)) (by omega)
          rw [← hq] at HT
          have HTT := Lib.hid HT
          have HBE := Lib.hid (HB4.out.trans (hB6.mono HB4.out.size))
          have HZK : Hid (w.heap.size ≤ bk) := by show _ ≤ _; omega
          clear HT hmem hbase hq hbfe hfk hbk4 hb46 hno hxl hxs hxb hbl hkeep hB6 hall ho6 hg6 HO6 HON HLM HLB HSZ HO HBS HB HBW HKW HKK k0 f0
          try go_frame
          go_wp2_with fail
          refine HTT.out.mono ?_; rintro e w7 ⟨S', A', k, cc, hturn, rfl, hpf, hadv, hkb, hinv⟩
          have k0 := hkb.cell (i := 0) rfl
          have HTU := Lib.hid hturn
          have HPF := Lib.hid hpf
          have HAD := Lib.hid (hadv.adv HBE.out HZK.out HH.out.base hpf.base)
          have HIV := Lib.hid hinv
          clear hturn hpf hadv hkb hinv HTT
          go_wp2_with fail
          go_ret2
          exact ⟨A', k, cc, HIV.out.mono (by have := HLQ.out; omega), ⟨S', rfl, HPF.out, HAD.out⟩, .inl ⟨HG.out, HE.out.trans HTU.out⟩⟩
  · have hcz : codeM v ns = 1 := by unfold codeM; rw [if_neg hg]
    rw [hcz]
    have HB := Lib.hid HB1.out
    go_wp2_with fail
    go_ret2
    exact ⟨A, 0, 1, HI.out.mono (by omega), ⟨S, rfl, HH.out.below HB.out, Adv.of_below HB.out⟩, .inr ⟨hg, rfl, rfl, rfl⟩⟩
end
end Go.Proofs.YtkdjkmnalkalpaaGreatDoor
namespace Go.Proofs.YtkdjkmnalkalpaaGreatDoor
open Go.RowKit Go.Maps Go.WideMaps
set_option maxRecDepth 100000
open Classical in
/-- What is looked up behind names are gone. -/
noncomputable def goneD (L : List ByteArray) (D : DataW Unit) (t : ByteArray) : Option Nat := if t ∈ L then none else dget D t

def byL (s : ByteArray) : List Int := intsOf s.data.toList
theorem byL_str (s : ByteArray) : strOfNums (byL s) = s := by unfold byL; rw [intsOf_str]
theorem byL_length (s : ByteArray) : (byL s).length = s.size := by unfold byL; rw [intsOf_length]; simp
theorem runs_next {B : List Int} {i : Nat} {A A' : FsA} (hi : i < 6) (h : Runs B i A A' 0) : ∃ A1, SaveStep B i A A1 0 ∧ Runs B (i + 1) A1 A' 0 := by
  cases h with
  | done => omega
  | fail _ hc => exact absurd rfl hc
  | next a b => exact ⟨_, a, b⟩
theorem runs_only {B : List Int} {room : Int} {A' : FsA} (h : Runs B 0 (newA room) A' 0) : ∀ s b, dget A'.now s = some b → s = nMan := by
  obtain ⟨A1, h0, h⟩ := runs_next (by omega) h
  obtain ⟨A2, h1, h⟩ := runs_next (by omega) h
  obtain ⟨A3, h2, h⟩ := runs_next (by omega) h
  obtain ⟨A4, h3, h⟩ := runs_next (by omega) h
  obtain ⟨A5, h4, h⟩ := runs_next (by omega) h
  obtain ⟨A6, h5, h⟩ := runs_next (by omega) h
  have e6 : A' = A6 := by
    cases h with
    | done => rfl
    | fail hs _ => exact hs.elim
    | next hs _ => exact hs.elim
  subst e6
  have n0 : ∀ s, dget (newA room).now s = none := fun s => rfl
  have n1 : ∀ s, dget A1.now s = none := by
    rcases rm_eff nameTmp h0 with ⟨hc, _⟩ | ⟨_, _, rfl⟩ | ⟨_, hch, _⟩
    · exact absurd rfl hc
    · exact n0
    · intro s
      rw [hch.now]
      show dget ((newA room).now.del (keyL nTmp)) s = none
      by_cases e : s = nTmp
      · subst e; exact dget_del_same _
      · rw [dget_del_other e]; exact n0 s
  obtain ⟨b, hbn, h1⟩ := h1
  rcases create_eff nameTmp h1 with ⟨hc, _⟩ | ⟨_, _, hch, k, hf⟩
  · exact absurd rfl hc
  have n2 : ∀ s x, dget A2.now s = some x → s = nTmp := fun s x hx => by
    by_cases e : s = nTmp
    · exact e
    · rw [hch.now] at hx
      have : dget A2.now s = dget A1.now s := by rw [hch.now]; exact dget_put_other e _
      rw [hch.now] at this
      rw [this, n1 s] at hx
      cases hx
  have hm1 : Maps.IsMap A1.now := by
    rcases rm_eff nameTmp h0 with ⟨hc, _⟩ | ⟨_, _, rfl⟩ | ⟨_, hch, _⟩
    · exact absurd rfl hc
    · exact Maps.isMap_empty
    · rw [hch.now]; exact (Maps.isMap_empty).del _
  have d2 : dget A2.now nTmp = some b := by rw [hch.now]; exact dget_put_same hm1 _ _
  have f2 : A2.file b = some ⟨k, [], 0⟩ := by rw [hf]; simp
  obtain ⟨g1, _, _, d, g4, _⟩ := append_eff nameTmp d2 f2 h2
  have d3 : dget A3.now nTmp = some b := by rw [g1]; exact d2
  have f3 : A3.file b = some ⟨k, d, 0⟩ := by rw [g4]; simp
  rcases sync_eff nameTmp d3 f3 h3 with ⟨hc, _⟩ | ⟨_, k1, _⟩
  · exact absurd rfl hc
  rcases rename_eff nameTmp nameMan h4 with ⟨hc, _⟩ | ⟨_, hch4, _⟩
  · exact absurd rfl hc
  rcases dir_eff h5 with ⟨hc, _⟩ | ⟨_, k5, _⟩
  · exact absurd rfl hc
  intro s x hx
  by_cases e : s = nMan
  · exact e
  · rw [k5, hch4.now] at hx
    have h6 : dget ((A4.now.del (keyL nTmp)).put (keyL nMan) (datOf (dget A4.now nTmp))) s = dget (A4.now.del (keyL nTmp)) s := dget_put_other e _
    have hx' : dget (A4.now.del (keyL nTmp)) s = some x := h6 ▸ hx
    by_cases e2 : s = nTmp
    · subst e2; rw [dget_del_same] at hx'; cases hx'
    · rw [dget_del_other e2, k1, g1] at hx'
      exact absurd (n2 s x hx') e2
theorem dget_mem {fl : Nat → Option Fil} {es : List (Lit × DataW Unit)} (hpw : es.Pairwise (fun p q => p.1 ≠ q.1)) {p : Lit × DataW Unit} (hp : p ∈ es) {s : ByteArray} {b : Nat} (h1 : p.1 = keyL s) (h2 : p.2 = .lit (.int .i64 (b : Nat))) (_ : fl b = fl b) : dget (.map es) s = some b := by
  unfold dget DataW.atKey
  have hf : es.find? (fun q => q.1.sameKey (keyL s)) = some p := by
    have hps : p.1.sameKey (keyL s) = true := by rw [h1]; simp [keyL, Lit.sameKey]
    cases hff : es.find? (fun q => q.1.sameKey (keyL s)) with
    | none => exact absurd hps (by simpa using List.find?_eq_none.1 hff p hp)
    | some q =>
      have hqm := List.mem_of_find?_eq_some hff
      have hqs := List.find?_some hff
      have hqk : q.1 = p.1 := (WideAt.sameKey_eq hqs).trans h1.symm
      rw [uniq_key es hpw q p hqm hp hqk]
  simp [hf, h2]
theorem tot_cons (fl : Nat → Option Fil) (p : Lit × DataW Unit) (es : List (Lit × DataW Unit)) : tot fl (p :: es) (fun _ => true) = wt fl p.2 + tot fl es (fun _ => true) := by unfold tot; simp
theorem tot_two (fl : Nat → Option Fil) (B C : Nat) (K : Lit) : ∀ es : List (Lit × DataW Unit), es.Pairwise (fun p q => p.1 ≠ q.1) → (∀ p ∈ es, wt fl p.2 ≤ B ∨ (p.1 = K ∧ wt fl p.2 ≤ B + C)) →
    tot fl es (fun _ => true) ≤ B * es.length + C ∧ ((∀ p ∈ es, p.1 ≠ K) → tot fl es (fun _ => true) ≤ B * es.length)
  | [], _, _ => by simp [tot]
  | p :: es, hp, h => by
    obtain ⟨g1, g2⟩ := List.pairwise_cons.1 hp
    obtain ⟨i1, i2⟩ := tot_two fl B C K es g2 fun q hq => h q (List.mem_cons_of_mem _ hq)
    have hm : B * (p :: es).length = B * es.length + B := by rw [List.length_cons, Nat.mul_succ]
    rw [tot_cons, hm]
    refine ⟨?_, fun hne => ?_⟩
    · rcases h p (by simp) with hw | ⟨hk, hw⟩
      · omega
      · have := i2 fun q hq e => g1 q hq (hk.trans e.symm)
        omega
    · rcases h p (by simp) with hw | ⟨hk, _⟩
      · have := i2 fun q hq => hne q (List.mem_cons_of_mem _ hq)
        omega
      · exact absurd hk (hne p (by simp))
theorem used_two {A : FsA} {n : Nat} (hI : Inv A n) (h : ∀ s b f, dget A.now s = some b → A.file b = some f → f.data.length ≤ 50 ∨ (s = nMan ∧ f.data.length ≤ 450)) : usedA A ≤ 50 * Maps.size A.now + 400 := by
  obtain ⟨es, hes, hp⟩ := hI.okNow
  obtain ⟨es', he', hpw⟩ := hI.tidyNow
  unfold usedA
  rw [hes] at he' h ⊢
  cases he'
  rw [size_eq]
  refine (tot_two A.file 50 400 (keyL nMan) es hpw fun p hpm => ?_).1
  obtain ⟨s, b, f, h1, _, h3, h4⟩ := hp p hpm
  have hw : wt A.file p.2 = f.data.length := by rw [h3]; unfold wt; simp [h4]
  rw [hw]
  rcases h s b f (dget_mem (fl := A.file) hpw hpm h1 h3 rfl) h4 with g | ⟨rfl, g⟩
  · exact .inl g
  · exact .inr ⟨h1, g⟩
theorem dget_no0 {D : DataW Unit} {s : ByteArray} (h : Maps.has D (keyL s) = false) : dget D s = none := by
  unfold dget; rw [atKey_of_not_has h]
structure CleanI (A : FsA) (n : Nat) (B : List Int) : Prop where
  inv : Inv A n
  calm : Calm A
  room : A.room = 20000
  man : NowM A (some B)
  short : B.length ≤ 400
  inj : ∀ s t b, dget A.now s = some b → dget A.now t = some b → s = t
  each : ∀ s b, dget A.now s = some b → s ≠ nMan → ∃ f, A.file b = some f ∧ f.data = byL s ∧ s.size ≤ 50
  nm : ∀ s b, dget A.now s = some b → nameB s = true
theorem CleanI.mono {A : FsA} {n m : Nat} {B : List Int} (h : CleanI A n B) (hm : n ≤ m) : CleanI A m B := ⟨h.inv.mono hm, h.calm, h.room, h.man, h.short, h.inj, h.each, h.nm⟩
theorem CleanI.start {A' : FsA} {B : List Int} (hB : B.length ≤ 400) (h : Runs B 0 (newA 20000) A' 0) (hI : Inv A' 18) : CleanI A' 18 B := by
  have hc0 : Calm (newA 20000) := ⟨rfl, rfl⟩
  obtain ⟨hc, hr⟩ := calm_runs hc0 h
  have hon := runs_only h
  have hI0 : Inv (newA 20000) 0 := Inv.new 20000 (by omega) (by omega)
  exact ⟨hI, hc, hr, (runs_now (m := none) hI0 hc0 rfl h).1 rfl, hB, fun s t b h1 h2 => (hon s b h1).trans (hon t b h2).symm, fun s b h1 h2 => absurd (hon s b h1) h2, fun s b h1 => by rw [hon s b h1]; exact nameMan⟩
theorem CleanI.keep {A : FsA} {n : Nat} {B : List Int} (h : CleanI A n B) (s : ByteArray) {b : Nat} (hc : (createA A s b).2 ≠ 0) : CleanI (createA A s b).1 (n + 3) B := by
  have hs : SameD A (createA A s b).1 := by
    unfold createA at hc ⊢
    split
    · split
      · exact .refl _
      · split
        · exact .refl _
        · split
          · rename_i h1 h2 h3 h4
            rw [if_pos h1, if_neg h2, if_neg h3, if_pos h4] at hc
            exact absurd rfl hc
          · exact .step _
    · exact .refl _
  exact ⟨inv_create h.inv s b, (calm_create h.calm s b).1, (calm_create h.calm s b).2.trans h.room, h.man.same hs, h.short, by rw [hs.now]; exact h.inj, by rw [hs.now, hs.file]; exact h.each, by rw [hs.now]; exact h.nm⟩
theorem CleanI.put {A : FsA} {n : Nat} {B : List Int} (h : CleanI A n B) (s : ByteArray) {b : Nat} (hb : A.file b = none) (hsz : s.size ≤ 50) (hc : (createA A s b).2 = 0) :
    (appendA (createA A s b).1 s (byL s)).2 = 0 ∧ CleanI (appendA (createA A s b).1 s (byL s)).1 (n + 6) B := by
  have hs : nameB s = true := by
    cases hn : nameB s with
    | true => rfl
    | false =>
      unfold createA at hc
      rw [hn] at hc
      simp at hc
  have hz : Maps.size A.now < 64 := by
    unfold createA at hc
    rw [if_pos hs] at hc
    split at hc
    · cases hc
    · split at hc
      · cases hc
      · omega
  rcases create_eff (A' := (createA A s b).1) (c := (createA A s b).2) hs rfl with ⟨hx, _⟩ | ⟨_, hd, hch, k, hf⟩
  · exact absurd hc hx
  have hI1 : Inv (createA A s b).1 (n + 3) := inv_create h.inv s b
  have hc1 := calm_create h.calm s b
  have hne : s ≠ nMan := fun e => by
    obtain ⟨b', f, h1, _⟩ := h.man
    rw [← e, hd] at h1
    cases h1
  have hm1 := create_now h.inv h.man hne hb
  generalize (createA A s b).1 = A1 at *
  have hget : ∀ t, t ≠ s → dget A1.now t = dget A.now t := fun t ht => by rw [hch.now]; exact dget_put_other ht _
  have hself : dget A1.now s = some b := by rw [hch.now]; exact dget_put_same h.inv.tidyNow.isMap _ _
  have hold : ∀ t x, t ≠ s → dget A1.now t = some x → x ≠ b := fun t x ht hx e => by
    rw [hget t ht] at hx
    obtain ⟨f, hfx⟩ := h.inv.named t x hx
    rw [e, hb] at hfx
    cases hfx
  have hfb : A1.file b = some ⟨k, [], 0⟩ := by rw [hf]; simp
  have hsz1 : Maps.size A1.now ≤ 64 := by
    rw [hch.now]
    show Maps.size (A.now.put (keyL s) _) ≤ 64
    rw [Maps.size_put h.inv.tidyNow]
    split <;> omega
  have hu : usedA A1 ≤ 50 * Maps.size A1.now + 400 := used_two hI1 fun t x f hx hfx => by
    by_cases e : t = s
    · subst e
      rw [hself] at hx
      cases hx
      rw [hfb] at hfx
      cases hfx
      exact .inl (by simp)
    · have hxb := hold t x e hx
      rw [hf] at hfx
      simp only [hxb, if_false] at hfx
      rw [hget t e] at hx
      by_cases em : t = nMan
      · subst em
        obtain ⟨b', f', g1, g2, g3, _⟩ := h.man
        rw [hx] at g1
        cases g1
        rw [hfx] at g2
        cases g2
        exact .inr ⟨rfl, by rw [g3]; have := h.short; omega⟩
      · obtain ⟨f', g1, g2, g3⟩ := h.each t x hx em
        rw [hfx] at g1
        cases g1
        exact .inl (by rw [g2, byL_length]; exact g3)
  have hr : A1.room = 20000 := hc1.2.trans h.room
  have e := append_calm (p := byL s) hc1.1 hs hself hfb (by rw [byL_length]; simp; omega) (by rw [hr, byL_length]; omega)
  have hI2 : Inv (appendA A1 s (byL s)).1 (n + 6) := inv_append hI1 s _
  have hc2 := calm_append hc1.1 s (byL s)
  have hm2 := append_now hI1 hm1 hne (byL s)
  rw [e] at hI2 hc2 hm2 ⊢
  refine ⟨rfl, hI2, hc2.1, hc2.2.trans hr, hm2, h.short, fun t u x h1 h2 => ?_, fun t x h1 h2 => ?_, fun t x h1 => ?_⟩
  · have h1' : dget A1.now t = some x := h1
    have h2' : dget A1.now u = some x := h2
    by_cases et : t = s
    · by_cases eu : u = s
      · rw [et, eu]
      · subst et
        rw [hself] at h1'
        cases h1'
        exact absurd rfl (hold u b eu h2')
    · by_cases eu : u = s
      · subst eu
        rw [hself] at h2'
        cases h2'
        exact absurd rfl (hold t b et h1')
      · rw [hget t et] at h1'
        rw [hget u eu] at h2'
        exact h.inj t u x h1' h2'
  · have h1' : dget A1.now t = some x := h1
    by_cases et : t = s
    · subst et
      rw [hself] at h1'
      cases h1'
      refine ⟨{ (⟨k, [], 0⟩ : Fil) with data := [] ++ byL t }, ?_, by simp, hsz⟩
      show (if b = b then _ else _) = _
      rw [if_pos rfl]
    · have hxb := hold t x et h1'
      rw [hget t et] at h1'
      obtain ⟨f', g1, g2, g3⟩ := h.each t x h1' h2
      refine ⟨f', ?_, g2, g3⟩
      show (if x = b then _ else A1.file x) = _
      rw [if_neg hxb, hf]
      simp only [hxb, if_false]
      exact g1
  · have h1' : dget A1.now t = some x := h1
    by_cases et : t = s
    · rw [et]; exact hs
    · rw [hget t et] at h1'
      exact h.nm t x h1'
theorem CleanI.rm {A : FsA} {n : Nat} {B : List Int} (h : CleanI A n B) {s : ByteArray} {b : Nat} (hd : dget A.now s = some b) (hne : s ≠ nMan) (hs : nameB s = true) :
    (removeA A s).2 = 0 ∧ CleanI (removeA A s).1 (n + 3) B ∧ (∀ t, dget (removeA A s).1.now t = if t = s then none else dget A.now t) ∧ Maps.size (removeA A s).1.now + 1 = Maps.size A.now := by
  have hI1 := inv_remove h.inv s
  have hc1 := calm_remove h.calm s
  have hm1 := remove_now h.man hne
  have e := remove_calm h.calm hs hd
  have hget : ∀ t, dget (removeA A s).1.now t = if t = s then none else dget A.now t := fun t => by
    rw [e]
    show dget (A.now.del (keyL s)) t = _
    by_cases et : t = s
    · subst et; rw [if_pos rfl]; exact dget_del_same _
    · rw [if_neg et]; exact dget_del_other et
  have hfl : (removeA A s).1.file = A.file := by rw [e]; rfl
  have hsz : Maps.size (removeA A s).1.now + 1 = Maps.size A.now := by
    rw [e]
    show Maps.size (A.now.del (keyL s)) + 1 = _
    have h2 := Maps.size_del (k := keyL s) h.inv.tidyNow
    have hh : Maps.has A.now (keyL s) = true := by
      cases hx : Maps.has A.now (keyL s) with
      | true => rfl
      | false =>
        have := dget_no0 hx
        rw [hd] at this
        cases this
    rw [hh, if_pos rfl] at h2
    exact h2
  have e2 : (removeA A s).2 = 0 := by rw [e]
  generalize (removeA A s).1 = A1 at *
  refine ⟨e2, ⟨hI1, hc1.1, hc1.2.trans h.room, hm1, h.short, fun t u x h1 h2 => ?_, fun t x h1 h2 => ?_, fun t x h1 => ?_⟩, hget, hsz⟩
  · rw [hget] at h1 h2
    split at h1
    · cases h1
    · split at h2
      · cases h2
      · exact h.inj t u x h1 h2
  · rw [hget] at h1
    split at h1
    · cases h1
    · rw [hfl]; exact h.each t x h1 h2
  · rw [hget] at h1
    split at h1
    · cases h1
    · exact h.nm t x h1
theorem CleanI.rms {B : List Int} : ∀ (L : List ByteArray) {A : FsA} {n k : Nat}, CleanI A n B → L.Nodup → (∀ s ∈ L, (∃ b, dget A.now s = some b) ∧ s ≠ nMan ∧ nameB s = true) →
    ∃ A', rmsA L A k = (A', k + L.length, 0) ∧ CleanI A' (n + 3 * L.length) B ∧ (∀ t, dget A'.now t = goneD L A.now t) ∧ Maps.size A'.now + L.length = Maps.size A.now
  | [], A, n, k, h, _, _ => ⟨A, rfl, h, fun t => by simp [goneD], by simp⟩
  | s :: L, A, n, k, h, hnd, hL => by
    obtain ⟨hns, hnd⟩ := List.nodup_cons.1 hnd
    obtain ⟨⟨b, hd⟩, hne, hnm⟩ := hL s (by simp)
    obtain ⟨e, h1, hg, hz⟩ := h.rm hd hne hnm
    obtain ⟨A', e', h', hg', hz'⟩ := CleanI.rms L (k := k + 1) h1 hnd fun t ht => by
      obtain ⟨⟨x, hx⟩, g2, g3⟩ := hL t (by simp [ht])
      refine ⟨⟨x, ?_⟩, g2, g3⟩
      have hts : t ≠ s := by rintro rfl; exact hns ht
      rw [hg, if_neg hts]
      exact hx
    refine ⟨A', ?_, h'.mono (by simp; omega), fun t => ?_, by simp; omega⟩
    · rw [rmsA, if_pos e, e']
      simp
      omega
    · rw [hg']
      unfold goneD
      rw [hg]
      by_cases ht : t ∈ L
      · rw [if_pos ht, if_pos (List.mem_cons_of_mem _ ht)]
      · rw [if_neg ht]
        by_cases e2 : t = s
        · rw [if_pos e2, if_pos (by rw [e2]; simp)]
        · rw [if_neg e2, if_neg (by simp [e2, ht])]
theorem namesB_mem {A : FsA} {n : Nat} (hI : Inv A n) {s : ByteArray} : s ∈ namesB A ↔ ∃ b, dget A.now s = some b := by
  constructor
  · intro h
    obtain ⟨l, hl, rfl⟩ := List.mem_map.1 h
    obtain ⟨b, f, h1, _⟩ := name_file hI.okNow hl
    exact ⟨b, h1⟩
  · rintro ⟨b, h⟩
    exact List.mem_map.2 ⟨s.data.toList, mem_names hI.tidyNow.isMap (by simpa using h), by simp⟩
theorem namesB_nodup {A : FsA} {n : Nat} (hI : Inv A n) : (namesB A).Nodup := by
  unfold namesB
  refine List.Pairwise.map _ (fun a b hab e => hab ?_) (names_nodup hI.tidyNow hI.okNow)
  have := congrArg (fun x : ByteArray => x.data.toList) e
  simpa using this
theorem namesB_count {A : FsA} {n : Nat} (hI : Inv A n) : (namesB A).length = Maps.size A.now := by unfold namesB; rw [List.length_map, names_size hI.tidyNow.isMap]
theorem CleanI.clean {A A' : FsA} {n k : Nat} {c : Int} {B : List Int} {ns : List Int} (h : CleanI A n B) (he : cleanA A ns = (A', k, c)) :
    c = 0 ∧ CleanI A' (n + 3 * ((namesB A).length + 1)) B ∧ (namesB A').length + k = (namesB A).length ∧ ∀ s ∈ namesB A', orphB ns s = false := by
  have hlo := orphL_length ns (namesB A)
  unfold cleanA at he
  by_cases h0 : orphL ns (namesB A) = []
  · rw [if_pos h0] at he
    cases he
    refine ⟨rfl, h.mono (by omega), by simp, fun s hs => ?_⟩
    unfold orphL at h0
    have := List.filter_eq_nil_iff.1 h0 s hs
    simpa using this
  · rw [if_neg h0] at he
    obtain ⟨A1, e1, h1, hg, hz⟩ := CleanI.rms (orphL ns (namesB A)) (k := 0) h ((namesB_nodup h.inv).filter _) fun s hs => by
      obtain ⟨hm, ho⟩ := List.mem_filter.1 hs
      obtain ⟨b, hb⟩ := (namesB_mem h.inv).1 hm
      refine ⟨⟨b, hb⟩, fun e => ?_, h.nm s b hb⟩
      unfold orphB at ho
      rw [decide_eq_true e] at ho
      simp at ho
    have hd := dir_calm h1.calm
    have hI2 := inv_dir h1.inv
    have hc2 := calm_dir h1.calm
    unfold turnA at he
    rw [e1] at he
    simp only [if_true] at he
    injection he with ea eb
    injection eb with eb ec
    have hn2 : A'.now = A1.now := by rw [← ea, hd]
    have hf2 : A'.file = A1.file := by rw [← ea, hd]
    rw [ea] at hI2 hc2
    have hcl : CleanI A' (n + 3 * ((namesB A).length + 1)) B :=
      ⟨hI2.mono (by omega), hc2.1, hc2.2.trans h1.room, by
        obtain ⟨b, f, g1, g2, g3, g4⟩ := h1.man
        exact ⟨b, f, by rw [hn2]; exact g1, by rw [hf2]; exact g2, g3, by rw [hn2]; exact g4⟩, h1.short, by rw [hn2]; exact h1.inj, by rw [hn2, hf2]; exact h1.each, by rw [hn2]; exact h1.nm⟩
    refine ⟨by rw [← ec, hd], hcl, ?_, fun s hs => ?_⟩
    · rw [namesB_count hcl.inv, namesB_count h.inv, hn2]
      omega
    · obtain ⟨b, hb⟩ := (namesB_mem hcl.inv).1 hs
      rw [hn2, hg] at hb
      unfold goneD at hb
      split at hb
      · cases hb
      · rename_i hnot
        cases ho : orphB ns s with
        | false => rfl
        | true => exact absurd (List.mem_filter.2 ⟨(namesB_mem h.inv).2 ⟨b, hb⟩, ho⟩) hnot
end Go.Proofs.YtkdjkmnalkalpaaGreatDoor
namespace Go.Proofs.YtkdjkmnalkalpaaGreatDoor
open Go.RowKit Go.Maps Go.WideMaps
set_option maxRecDepth 100000

theorem conv_below (w : World) (e : TypeId) (s : ByteArray) : Below w.heap.size w (Lib.bytesWorld w e s) :=
  ⟨rfl, rfl, rfl, by rw [Lib.bytesWorld_size]; omega, fun k hk => Lib.bytesWorld_at_old w e s k hk⟩
theorem conv_row (w : World) (s : ByteArray) : Bytes (Lib.bytesWorld w 5 s) (.slice (some ⟨w.heap.size, 0, none⟩) s.size (grownCap w s.size 0 5)) (byL s) := by
  refine .inr (.inr ⟨w.heap.size, 0, _, by rw [byL_length], by rw [byL_length]; exact grownCap_ge _ _ _ _, by rw [Lib.bytesWorld_size]; omega, fun j v hv => ?_⟩)
  have hj : j < s.size := by
    have := (List.getElem?_eq_some_iff.1 hv).1
    rw [List.length_map, byL_length] at this
    exact this
  rw [Nat.zero_add, Lib.bytesWorld_cell w _ s j hj]
  rw [← hv]
  unfold byL intsOf
  rw [List.map_map, List.getElem?_map, List.getD_eq_getElem?_getD, List.getElem?_eq_getElem (by simpa using hj)]
  rfl
structure CleanW (w0 wr : World) (bm g : Nat) (S : Nat → Prop) (A : FsA) (n : Nat) (B : List Int) (v : Int) (u : Value) : Prop where
  pf : PF w0 wr g S A
  std : CleanI A n B
  blk : Blk wr bm 37 [.int .i64 v, u]
  no : ¬ S bm
section
variable {w0 wr w' : World} {bm g n n' : Nat} {S S' : Nat → Prop} {A A' : FsA} {B : List Int} {v : Int} {u : Value}
theorem CleanW.below (h : CleanW w0 wr bm g S A n B v u) (hb : Below wr.heap.size wr w') : CleanW w0 w' bm g S A n B v u := ⟨h.pf.below hb, h.std, blk_stay hb h.blk, h.no⟩
theorem CleanW.next (h : CleanW w0 wr bm g S A n B v u) (ha : Adv S S' wr w') (hp : PF w0 w' g S' A') (hs : CleanI A' n' B) : CleanW w0 w' bm g S' A' n' B v u := ⟨hp, hs, (ha.blk h.blk h.no).1, (ha.blk h.blk h.no).2⟩
theorem CleanW.mono (h : CleanW w0 wr bm g S A n B v u) (hn : n ≤ n') : CleanW w0 wr bm g S A n' B v u := ⟨h.pf, h.std.mono hn, h.blk, h.no⟩
end
theorem nameV_cat {n : Nat} (h1 : 1 ≤ (n : Int)) (h2 : (n : Int) ≤ 2147483647) : (⟨#[115, 101, 103, 45]⟩ : ByteArray) ++ dgS n = nameV n := by
  apply ByteArray.ext
  rw [ByteArray.data_append]
  apply Array.toList_inj.1
  rw [Array.toList_append, nameV_list h1 h2]
  rfl
theorem orph_named {ns : List Int} {s : ByteArray} (h : orphB ns s = false) : (decide (s = nMan) || ns.any fun x => decide (nameV x = s)) = true := by
  unfold orphB namedB at h
  by_cases e : s = nMan
  · simp [e]
  · rw [decide_eq_false e] at h ⊢
    rw [Bool.false_or, List.any_eq_true]
    simp only [Bool.not_false, Bool.true_and, Bool.not_eq_false', List.any_eq_true, decide_eq_true_eq] at h
    obtain ⟨j, hj, _, _, hn⟩ := h
    exact ⟨j, hj, by simpa using hn⟩
theorem any_snoc {ns : List Int} {s : ByteArray} {j : Nat} (hj : j < ns.length) : (ns.take (j + 1)).any (fun x => decide (nameV x = s)) = ((ns.take j).any (fun x => decide (nameV x = s)) || decide (nameV (ns.getD j 0) = s)) := by
  rw [take_succ_getD hj, List.any_append]
  simp
theorem CleanI.read {A : FsA} {n : Nat} {B : List Int} (h : CleanI A n B) {s : ByteArray} {b : Nat} (hd : dget A.now s = some b) : ∃ p, readA A s = (p, 0) ∧ p.length ≤ 65536 ∧ (s = nMan ∧ p = B ∨ s ≠ nMan ∧ p = byL s) := by
  have hs := h.nm s b hd
  by_cases e : s = nMan
  · refine ⟨B, ?_, by have := h.short; omega, .inl ⟨e, rfl⟩⟩
    have := h.man.read
    rw [e]
    exact this
  · obtain ⟨f, h1, h2, h3⟩ := h.each s b hd e
    refine ⟨byL s, ?_, by rw [byL_length]; omega, .inr ⟨e, rfl⟩⟩
    rw [readA_some hs hd h1, h2]
set_option maxHeartbeats 16000000 in
theorem cleans_any (n : Int) (u v : Value) (ns : List Int) (ss : List ByteArray) (w0 : World) (hl : NumL w0) (hu : IntsW w0 u ns) (hul : ns.length < 9223372036854775808) (hs : TxtAt w0 v ss) (hso : ∀ s ∈ ss, s.size ≤ 9223372036854775807) :
    Calls Tryz.prog 5 #[.agg #[.int .i64 n, u], v] w0 fun e w' => e = .returned (.bool true) ∧ Below w0.heap.size w0 w' := by
  obtain ⟨ua, uc, rfl⟩ := hu.slice
  obtain ⟨va, vc, rfl⟩ := hs.slice
  obtain ⟨wx, hwx⟩ : ∃ wx, wx = w0.alloc (.cells #[.int .i64 n, .slice ua ns.length uc] 37) := ⟨_, rfl⟩
  have hbx : Below w0.heap.size w0 wx := by rw [hwx]; exact (Below.refl _ _).alloc (Nat.le_refl _) _
  have hkx : Blk wx w0.heap.size 37 [.int .i64 n, .slice ua ns.length uc] := by rw [hwx]; exact Blk.new w0 _ _
  have HL := Lib.hid hl
  have HU := Lib.hid hu
  have HUL := Lib.hid hul
  have HS := Lib.hid hs
  have HSO := Lib.hid hso
  have HBX := Lib.hid hbx
  have HKX := Lib.hid hkx
  clear hl hu hul hs hso hbx hkx
  go_enter Tryz.func5, Tryz.ntmps5
  go_upto_region 1 with fail
  rw [← hwx]
  clear hwx
  obtain ⟨bm, hbm⟩ : ∃ bm, bm = w0.heap.size := ⟨_, rfl⟩
  have HKB : Hid (Blk wx bm 37 [.int .i64 n, .slice ua ns.length uc]) := by show Blk _ _ _ _; rw [hbm]; exact HKX.out
  have HBM : Hid (bm = w0.heap.size) := hbm
  rw [← hbm]
  clear hbm HKX
  go_wp2_with fail
  refine (awake5_any wx (HL.out.below HBX.out)).mono ?_; rintro e w1 ⟨rfl, hb1⟩
  have HB1 := Lib.hid (HBX.out.trans (hb1.mono HBX.out.size))
  have HK1 := Lib.hid (blk_stay hb1 HKB.out)
  clear hb1 HKB HBX
  have x0 := HK1.out.cell (i := 0) rfl
  have x1 := HK1.out.cell (i := 1) rfl
  by_cases hbig : 60 < ss.length
  · have l1 : (ss.length : Int) > 60 := by omega
    clear hbig
    go_wp2_with fail
    refine (awake5_any w1 (HL.out.below HB1.out)).mono ?_; rintro e w2 ⟨rfl, hb2⟩
    have HE := Lib.hid (HB1.out.trans (hb2.mono HB1.out.size))
    clear hb2
    go_wp2_with fail
    go_ret
    exact ⟨rfl, HE.out⟩
  have l1 : ¬ (ss.length : Int) > 60 := by omega
  have HSL := Lib.hid (show ss.length ≤ 60 by omega)
  clear hbig
  have HCH := Lib.hid (check_any n (.slice ua ns.length uc) ns w1 (HU.out.below HB1.out) HUL.out (HL.out.tab.below HB1.out))
  by_cases hg : GoodM n ns
  case neg =>
    rw [show codeM n ns = 1 by unfold codeM; rw [if_neg hg]] at HCH
    go_wp2_with fail
    refine HCH.out.mono ?_; rintro e w2 ⟨rfl, hb2⟩
    have HB2 := Lib.hid (HB1.out.trans (hb2.mono HB1.out.size))
    clear hb2 HCH x0 x1
    go_wp2_with fail
    refine (awake5_any w2 (HL.out.below HB2.out)).mono ?_; rintro e w3 ⟨rfl, hb3⟩
    have HE := Lib.hid (HB2.out.trans (hb3.mono HB2.out.size))
    clear hb3
    go_wp2_with fail
    go_ret
    exact ⟨rfl, HE.out⟩
  rw [show codeM n ns = 0 by unfold codeM; rw [if_pos hg]] at HCH
  have HG := Lib.hid hg
  have HUI := Lib.hid (HU.out.ints hg.2.1.1)
  have hml := manB_len hg
  have HDC := Lib.hid (decM_enc hg)
  obtain ⟨B, hB⟩ : ∃ B, B = manB n ns := ⟨_, rfl⟩
  rw [← hB] at hml HDC
  have HML := Lib.hid hml
  have HBQ := Lib.hid hB
  clear hg hml hB
  go_wp2_with fail
  refine HCH.out.mono ?_; rintro e w2 ⟨rfl, hb2⟩
  have HB2 := Lib.hid (HB1.out.trans (hb2.mono HB1.out.size))
  have HK2 := Lib.hid (blk_stay hb2 HK1.out)
  clear hb2 HCH x0 x1 HK1 HB1
  go_wp2_with fail
  refine (new_pf (w0 := w2) 20000 (by omega) (by omega) (Below.refl _ _)).mono ?_; rintro e w3 ⟨g, S, rfl, hpf2, hb3⟩
  have hno3 : ¬ S bm := fun e => by have := (hpf2.lo _ e).1; have := HK2.out.lt; omega
  have hpf : PF w0 w3 g S (newA 20000) := ⟨hpf2.fs, fun k hk => ⟨Nat.le_trans HB2.out.size (hpf2.lo k hk).1, (hpf2.lo k hk).2⟩, HB2.out.trans (hpf2.base.mono HB2.out.size)⟩
  clear hpf2
  have HPF := Lib.hid hpf
  have HK3 := Lib.hid (blk_stay hb3 HK2.out)
  have HNO := Lib.hid hno3
  have HSV := Lib.hid (save_pf n (.slice ua ns.length uc) ns hpf (Inv.new 20000 (by omega) (by omega)) (by omega) HL.out.tab (HU.out.below hpf.base) HUL.out)
  clear hb3 hpf hno3 HK2 HB2
  have x0 := HK3.out.cell (i := 0) rfl
  have x1 := HK3.out.cell (i := 1) rfl
  go_wp2_with fail
  refine HSV.out.mono ?_; rintro e w4 ⟨A4, c4, hsr, hinv4, S4, rfl, hpf4, hadv4⟩
  have hruns : Runs B 0 (newA 20000) A4 c4 := by
    rcases hsr with ⟨_, h⟩ | ⟨h, _⟩
    · rw [HBQ.out]; exact h
    · exact absurd HG.out h
  obtain rfl : c4 = 0 := runs_new (by have := HML.out; omega) (by omega) hruns
  have HST : Hid (CleanW w0 w4 bm g S4 A4 (18 + 6 * 0) B n (.slice ua ns.length uc)) := ⟨hpf4, (CleanI.start (by have := HML.out; omega) hruns hinv4).mono (by omega), (hadv4.blk HK3.out HNO.out).1, (hadv4.blk HK3.out HNO.out).2⟩
  clear hsr hinv4 hpf4 hadv4 hruns HSV HPF HK3 HNO x0 x1
  go_wp2_with fail
  go_loopw [8, 51] (fun _ s51 wr => ∃ (i : Nat) (S : Nat → Prop) (A : FsA), i ≤ ss.length ∧ s51 = .int .i64 i ∧ CleanW w0 wr bm g S A (18 + 6 * i) B n (.slice ua ns.length uc)) (fun _ s51 _ => ss.length - (intOf s51).toNat)
  case atStart => exact ⟨0, S4, A4, Nat.zero_le _, rfl, HST.out⟩
  case round =>
    clear HST
    obtain ⟨i, S5, A5, hi, rfl, hst⟩ := hrel
    have HST := Lib.hid hst
    clear hst
    have hs60 := HSL.out
    by_cases hlt : i < ss.length
    · have l2 : (i : Int) < ss.length := by omega
      have hsi := List.getElem?_eq_getElem hlt
      have hsz := HSO.out _ (List.getElem_mem hlt)
      generalize ss[i] = s at hsi hsz
      obtain ⟨tb, o, rfl, hc⟩ : ∃ tb o, va = some ⟨tb, o, none⟩ ∧ wr.cell? ⟨tb, o + i, none⟩ = some (.string s) := by
        rcases HS.out with ⟨_, h0⟩ | ⟨tb, o, cap, e, hb, hc⟩
        · rw [h0] at hsi; cases hsi
        · injection e with e1 e2 e3
          exact ⟨tb, o, e1, hc i s hsi wr (HST.out.pf.base.block tb hb)⟩
      clear hsi
      by_cases h50 : s.size ≤ 50
      · have l3 : (s.size : Int) ≤ 50 := by omega
        have HCR := Lib.hid (create_pf s HST.out.pf HST.out.std.inv (by omega) hsz)
        have H50 := Lib.hid h50
        clear h50 hsz
        go_wp2_with fail
        refine HCR.out.mono ?_; rintro e w6 ⟨b6, hb6, S6, rfl, hpf6, hadv6⟩
        clear HCR
        by_cases hc0 : (createA A5 s b6).2 = 0
        · obtain ⟨hap, hstd⟩ := HST.out.std.put s hb6 H50.out hc0
          have hinv1 := inv_create HST.out.std.inv s b6
          rw [hc0]
          generalize (createA A5 s b6).1 = A6 at *
          have hw6 : CleanW w0 w6 bm g S6 A6 (18 + 6 * i) B n (.slice ua ns.length uc) ∨ True := .inr trivial
          have hbw := conv_below w6 5 s
          have hno6 : ¬ S6 w6.heap.size := fun e => by have := (hpf6.lo _ e).2; omega
          have HAP := Lib.hid (append_pf s (.slice (some ⟨w6.heap.size, 0, none⟩) s.size (grownCap w6 s.size 0 5)) (byL s) (hpf6.below hbw) hinv1 (by omega) (by have := H50.out; omega) (conv_row w6 s) (by rw [byL_length]; have := H50.out; omega) (fun x hx => by
            have e : some w6.heap.size = some x := hx.1
            cases e
            exact hno6))
          rw [hap] at HAP
          have HSTD := Lib.hid hstd
          have HAD := Lib.hid (hadv6.trans (Adv.of_below hbw))
          have hcv := fun W => Lib.run_convert_string_bytes (P := Tryz.prog) W 9 38 5 s Tryz.underlying9 Tryz.underlying38 Tryz.underlying5
          clear hw6 hap hstd hinv1 hbw hno6 hpf6 hadv6 hb6 hc0 hc
          go_wp2_with fail
          refine HAP.out.mono ?_; rintro e w7 ⟨S7, rfl, hpf7, hadv7⟩
          have HN7 := Lib.hid (HST.out.next (HAD.out.trans hadv7) hpf7 HSTD.out)
          clear hpf7 hadv7 HAP HAD HSTD HST hcv
          generalize (appendA A6 s (byL s)).1 = A7 at *
          go_wp2_with fail
          go_roundw
          case rel => exact ⟨i + 1, S7, A7, by omega, by go_num, HN7.out.mono (by omega)⟩
          case measure => simp [intOf]; omega
        · have HN6 := Lib.hid ((HST.out.next hadv6 hpf6 (HST.out.std.keep s hc0)).mono (show 18 + 6 * i + 3 ≤ 18 + 6 * (i + 1) by omega))
          generalize (createA A5 s b6).1 = A6 at *
          generalize (createA A5 s b6).2 = c6 at *
          clear hpf6 hadv6 hb6 HST hc
          go_wp2_with fail
          go_roundw
          case rel => exact ⟨i + 1, S6, A6, by omega, by go_num, HN6.out⟩
          case measure => simp [intOf]; omega
      · have l3 : ¬ (s.size : Int) ≤ 50 := by omega
        clear h50
        go_wp2_with fail
        go_roundw
        case rel => exact ⟨i + 1, S5, A5, by omega, by go_num, HST.out.mono (by omega)⟩
        case measure => simp [intOf]; omega
    · have l2 : ¬ (i : Int) < ss.length := by omega
      have HST9 := Lib.hid (HST.out.mono (show 18 + 6 * i ≤ 378 by omega))
      clear hlt hi HST
      have hi9 := HST9.out.std.inv
      have HLI := Lib.hid (list_any g S5 A5 wr HST9.out.pf.fs (by have := hi9.sizeNow; omega))
      go_wp2_with fail
      refine HLI.out.mono ?_; rintro e w6 ⟨lv, rfl, hlo, hb6⟩
      clear HLI hi9
      obtain ⟨N, hN⟩ : ∃ N, N = (namesD A5.now).length := ⟨_, rfl⟩
      rw [← hN] at hlo
      obtain ⟨la, lc, rfl⟩ := own_slice hlo
      have hNB : N = (namesB A5).length := by rw [hN]; unfold namesB; simp
      have HNB := Lib.hid hNB
      have HST6 := Lib.hid (HST9.out.below hb6)
      have hNl : (namesB A5).length ≤ 378 := namesB_length HST9.out.std.inv
      have HNL := Lib.hid hNl
      have HCL := Lib.hid (clean_pf n (.slice ua ns.length uc) ns HST6.out.pf HST6.out.std.inv (by omega) HL.out (HU.out.below HST6.out.pf.base) HUL.out)
      have x0 := HST6.out.blk.cell (i := 0) rfl
      have x1 := HST6.out.blk.cell (i := 1) rfl
      clear hlo hb6 hN hNB hNl HST9
      go_wp2_with fail
      refine HCL.out.mono ?_; rintro e w7 ⟨A7, k, c, hinv7, ⟨S7, rfl, hpf7, hadv7⟩, hor⟩
      have hce : cleanA A5 ns = (A7, k, c) := by
        rcases hor with ⟨_, h⟩ | ⟨h, _⟩
        · exact h
        · exact absurd HG.out h
      obtain ⟨rfl, hst7, hcnt, horph⟩ := HST6.out.std.clean hce
      have HST7 := Lib.hid ((HST6.out.next hadv7 hpf7 hst7).mono (show _ ≤ 2000 by have := HNL.out; omega))
      have HORP := Lib.hid horph
      have HCNT := Lib.hid hcnt
      clear hor hce hst7 hcnt horph hinv7 hpf7 hadv7 HCL x0 x1 HST6
      have hi7 := HST7.out.std.inv
      have HLI := Lib.hid (list_any g S7 A7 w7 HST7.out.pf.fs (by have := hi7.sizeNow; omega))
      go_wp2_with fail
      refine HLI.out.mono ?_; rintro e w8 ⟨lv, rfl, hlo, hb8⟩
      obtain ⟨M, hM⟩ : ∃ M, M = (namesD A7.now).length := ⟨_, rfl⟩
      rw [← hM] at hlo
      obtain ⟨ma, mc, rfl⟩ := own_slice hlo
      have hMB : M = (namesB A7).length := by rw [hM]; unfold namesB; simp
      have HMB := Lib.hid hMB
      have HST8 := Lib.hid (HST7.out.below hb8)
      have HTX : Hid (TxtAt w8 (.slice ma M mc) (namesB A7)) := TxtAt.of_own (by
        rw [namesB_enc] at hlo
        rw [← hMB]
        exact hlo)
      have hk1 : IntKind.i64.wrap ((N : Int) - M) = k := by
        have h1 := HCNT.out
        have h2 := HNB.out
        have h3 := HNL.out
        rw [show (N : Int) - M = k by omega]
        exact IntWalk.i64_in _ (by omega)
      have hM2 : M ≤ 378 := by have h1 := HCNT.out; have h3 := HNL.out; omega
      have HM2 := Lib.hid hM2
      clear hlo hb8 hM hMB HLI hi7 HST7 HCNT HNB HNL
      have hsub : (N : Int) - M = k ∨ True := .inr trivial
      clear hsub
      go_wp2_with fail
      clear hk1
      go_loopw [13, 14, 16, 17, 18, 96, 105] (fun _ _ _ _ _ s96 _ wq => ∃ (i : Nat), i ≤ M ∧ s96 = .int .i64 i ∧ Below w8.heap.size w8 wq) (fun _ _ _ _ _ s96 _ _ => M - (intOf s96).toNat)
      case atStart => exact ⟨0, Nat.zero_le _, rfl, Below.refl _ _⟩
      case round =>
        obtain ⟨wq, rfl⟩ : ∃ wq, wq = wr := ⟨_, rfl⟩
        obtain ⟨i, hi, rfl, hbq⟩ := hrel
        have HBQ2 := Lib.hid hbq
        have HSTQ := Lib.hid (HST8.out.below hbq)
        clear hbq
        have hm2 := HM2.out
        by_cases hlt : i < M
        · have l3 : (i : Int) < M := by omega
          have hsi := List.getElem?_eq_getElem (show i < (namesB A7).length by have := HMB.out; omega)
          have hsm := List.getElem_mem (show i < (namesB A7).length by have := HMB.out; omega)
          generalize (namesB A7)[i]'(by have := HMB.out; omega) = s at hsi hsm
          obtain ⟨tb, o, rfl, hc⟩ : ∃ tb o, ma = some ⟨tb, o, none⟩ ∧ wq.cell? ⟨tb, o + i, none⟩ = some (.string s) := by
            rcases HTX.out with ⟨_, h0⟩ | ⟨tb, o, cap, e, hb, hc⟩
            · rw [h0] at hsi; cases hsi
            · injection e with e1 e2 e3
              exact ⟨tb, o, e1, hc i s hsi wq (HBQ2.out.block tb hb)⟩
          have HORS := Lib.hid (orph_named (HORP.out s hsm))
          obtain ⟨fb, hfb⟩ := (namesB_mem HSTQ.out.std.inv).1 hsm
          obtain ⟨p, hrd, hpl, hcase⟩ := HSTQ.out.std.read hfb
          have hs20 := namesB_size HSTQ.out.std.inv s hsm
          have HRD := Lib.hid hrd
          have HPL := Lib.hid hpl
          have HCS := Lib.hid hcase
          have HS20 := Lib.hid hs20
          have x1 := HSTQ.out.blk.cell (i := 1) rfl
          obtain ⟨q0, hq0⟩ : ∃ q0, q0 = decide (s = nMan) := ⟨_, rfl⟩
          have HQ0 := Lib.hid hq0
          have l4 : (s.toList == [109, 97, 110, 105, 102, 101, 115, 116]) = q0 := by
            rw [hq0, ← nMan_toList]
            by_cases e : s = nMan
            · rw [decide_eq_true e, e]; simp
            · rw [decide_eq_false e]; exact str_other e
          clear hsi hsm hfb hrd hpl hcase hs20 hq0
          go_upto_region 21 with fail
          go_wp2_with fail
          go_loopw [14, 16, 105] (fun s14 _ s105 wi => ∃ (j : Nat), j ≤ ns.length ∧ s105 = .int .i64 j ∧ s14 = .bool (q0 || (ns.take j).any fun x => decide (nameV x = s)) ∧ Below wq.heap.size wq wi) (fun _ _ s105 _ => ns.length - (intOf s105).toNat)
          case atStart => exact ⟨0, Nat.zero_le _, rfl, by simp, Below.refl _ _⟩
          case round =>
            obtain ⟨wi, rfl⟩ : ∃ wi, wi = wr := ⟨_, rfl⟩
            obtain ⟨j, hj, rfl, rfl, hbi⟩ := hrel
            have HBI := Lib.hid hbi
            clear hbi
            by_cases hjl : j < ns.length
            · have hn100 := HG.out.2.1.2
              have l5 : (j : Int) < ns.length := by omega
              obtain ⟨ub, uo, rfl, hul2, hcu⟩ := HUI.out.cells (by omega)
              have hcj : wi.cell? ⟨ub, uo + j, none⟩ = some (.int .i64 (ns.getD j 0)) := by
                rw [World.cell?_of_block (w := wq) (HBI.out.block ub (Nat.lt_of_lt_of_le hul2 HSTQ.out.pf.base.size)), World.cell?_of_block (w := w0) (HSTQ.out.pf.base.block ub hul2)]
                exact hcu j hjl
              have hid := risB_at HG.out.2.2 hjl
              have HSN := Lib.hid (any_snoc (s := s) hjl)
              obtain ⟨x, hx⟩ : ∃ x : Nat, ns.getD j 0 = (x : Int) := ⟨(ns.getD j 0).toNat, by omega⟩
              rw [hx] at hcj hid HSN
              have HID := Lib.hid hid
              generalize (ns.take j).any (fun x => decide (nameV x = s)) = bj at *
              clear hcu hx hul2
              cases hqb : (q0 || bj) with
              | true =>
                have HNX : Hid (true = (q0 || (ns.take (j + 1)).any fun x => decide (nameV x = s))) := by
                  show _ = _
                  rw [HSN.out, ← Bool.or_assoc, hqb, Bool.true_or]
                clear hqb hid
                go_wp2_with fail
                go_roundw
                case rel => exact ⟨j + 1, by omega, by go_num, by rw [← HNX.out], HBI.out⟩
                case measure => simp [intOf]; omega
              | false =>
                have HDG := Lib.hid (refDigits_any x (by omega) wi)
                have hz := dgS_size (n := x) (by omega)
                have hcat := nameV_cat hid.1 hid.2
                obtain ⟨qn, hqn⟩ : ∃ qn, qn = decide (nameV (x : Int) = s) := ⟨_, rfl⟩
                have HNX : Hid (qn = (q0 || (ns.take (j + 1)).any fun x => decide (nameV x = s))) := by
                  show _ = _
                  rw [HSN.out, ← Bool.or_assoc, hqb, Bool.false_or, hqn]
                have l6 : (s.toList == ((⟨#[115, 101, 103, 45]⟩ : ByteArray) ++ dgS x).toList) = qn := by
                  rw [hqn, hcat]
                  by_cases e : nameV (x : Int) = s
                  · rw [decide_eq_true e, e]; simp
                  · rw [decide_eq_false e]; exact str_other (Ne.symm e)
                generalize dgS x = d at *
                have z1 : ¬ 9223372036854775807 < 4 + d.size := by omega
                clear hz hcat hqn hqb hid
                go_wp2_with fail
                refine HDG.out.mono ?_; rintro e w11 ⟨rfl, hb11⟩
                have HBI2 := Lib.hid (HBI.out.trans (hb11.mono HBI.out.size))
                clear hb11 HDG
                go_wp2_with fail
                go_roundw
                case rel => exact ⟨j + 1, by omega, by go_num, by rw [← HNX.out], HBI2.out⟩
                case measure => simp [intOf]; omega
            · obtain rfl : j = ns.length := by omega
              have hnt : (q0 || (ns.take ns.length).any fun x => decide (nameV x = s)) = true := by
                rw [List.take_of_length_le (Nat.le_refl _), HQ0.out]
                exact HORS.out
              have l5 : ¬ ((ns.length : Nat) : Int) < ns.length := by omega
              rw [hnt]
              have HSTI := Lib.hid (HSTQ.out.below HBI.out)
              have HRA := Lib.hid (read_any g S7 A7 s wi HSTI.out.pf.fs HSTI.out.std.inv.named HSTI.out.std.inv.short (by have := HS20.out; omega))
              rw [HRD.out] at HRA
              clear hnt hj hjl x1
              go_wp2_with fail
              refine HRA.out.mono ?_; rintro e w12 ⟨pv, rfl, hcp⟩
              obtain ⟨hco, hb12⟩ := hcp
              have hbs := OwnD.bytes hco
              obtain ⟨pa, pc, rfl⟩ := own_slice hco
              have HBN := Lib.hid (HBQ2.out.trans ((HBI.out.trans (hb12.mono HBI.out.size)).mono HBQ2.out.size))
              have HBSQ := Lib.hid hbs
              clear hco hb12 HRA HSTI HRD hbs
              rcases HCS.out with ⟨hsn, _⟩ | ⟨hsn, hpe⟩
              · obtain rfl : q0 = true := by rw [HQ0.out, decide_eq_true hsn]
                clear hsn HQ0 HORS HCS
                go_wp2_with fail
                go_roundw
                case rel => exact ⟨i + 1, by omega, by go_num, HBN.out⟩
                case measure => simp [intOf]; omega
              · obtain rfl : q0 = false := by rw [HQ0.out, decide_eq_false hsn]
                have hcv := run_string HBSQ.out
                rw [show strOfNums p = s by rw [hpe]; exact byL_str s] at hcv
                clear hsn HQ0 HORS HCS hpe HBSQ
                go_wp2_with fail
                go_roundw
                case rel => exact ⟨i + 1, by omega, by go_num, HBN.out⟩
                case measure => simp [intOf]; omega
        · obtain rfl : i = M := by omega
          have l3 : ¬ (i : Int) < i := by omega
          have hrd := HSTQ.out.std.man.read
          have HLD := Lib.hid (load_pf HSTQ.out.pf HSTQ.out.std.inv HL.out (by rw [hrd, HBQ.out]; exact manB_byt n ns))
          rw [hrd] at HLD
          clear hrd hlt hi
          go_wp2_with fail
          refine HLD.out.mono ?_; rintro e w12 ⟨hb12, hq⟩
          obtain ⟨x, rfl, hx⟩ : ∃ x, e = .returned (.tuple #[.agg #[.int .i64 n, x], .int .i64 0]) ∧ IntsAt w12 wq.heap.size x ns := by
            rcases hq with ⟨h, _⟩ | ⟨_, ⟨m, ms, x, hd, rfl, hx⟩ | ⟨hd, _⟩⟩
            · exact absurd rfl h
            · rw [show (some B).getD [] = B from rfl, HDC.out] at hd
              cases hd
              exact ⟨x, rfl, hx⟩
            · rw [show (some B).getD [] = B from rfl, HDC.out] at hd
              cases hd
          obtain ⟨xb, xo, xc, rfl, _⟩ := id hx
          have HX6 := Lib.hid hx.ints
          have HST12 := Lib.hid (HSTQ.out.below hb12)
          clear hx hq hb12 HLD HSTQ
          go_upto_region 31 with fail
          refine Fr.wp_world fun w13 hw13 => ?_
          have hb13 : Below w12.heap.size w12 w13 := by rw [hw13]; exact (Below.refl _ _).alloc (Nat.le_refl _) _
          have hk13 : Blk w13 w12.heap.size 37 [.int .i64 n, .slice (some ⟨xb, xo, none⟩) ns.length xc] := by rw [hw13]; exact Blk.new w12 _ _
          have HST13 := Lib.hid (HST12.out.below hb13)
          have HX7 := Lib.hid (HX6.out.below hb13)
          obtain ⟨bx, hbx⟩ : ∃ bx, bx = w12.heap.size := ⟨_, rfl⟩
          rw [← hbx] at hk13
          try rw [← hbx]
          have HKX := Lib.hid hk13
          clear hb13 hw13 hk13 hbx HX6 HST12
          have hui := HUI.out.below HST13.out.pf.base
          have hn32 := HG.out.2.1.2
          have HSK : Hid (∀ W : World, Below w13.heap.size w13 W → (W.cell? ⟨bm, 0, none⟩ = some (.int .i64 n) ∧ W.cell? ⟨bm, 1, none⟩ = some (.slice ua ns.length uc) ∧ W.cell? ⟨bx, 0, none⟩ = some (.int .i64 n) ∧ W.cell? ⟨bx, 1, none⟩ = some (.slice (some ⟨xb, xo, none⟩) ns.length xc))) := fun W hW =>
            ⟨(blk_stay hW HST13.out.blk).cell (i := 0) rfl, (blk_stay hW HST13.out.blk).cell (i := 1) rfl, (blk_stay hW HKX.out).cell (i := 0) rfl, (blk_stay hW HKX.out).cell (i := 1) rfl⟩
          have HRF := Lib.hid (fun (W : World) (_ : Below w13.heap.size w13 W) => ref5_slice n ua ns.length uc W)
          have HSM := Lib.hid (fun (W : World) (hW : Below w13.heap.size w13 W) => show Calls Tryz.prog 25 #[.agg #[.int .i64 n, .slice (some ⟨xb, xo, none⟩) ns.length xc], .agg #[.int .i64 n, .slice ua ns.length uc]] W fun e w' => e = .returned (.bool true) ∧ Below W.heap.size W w' from by
            have := same5_any n n (.slice (some ⟨xb, xo, none⟩) ns.length xc) (.slice ua ns.length uc) ns ns W (HX7.out.below hW) (hui.below hW) (by omega) (by omega)
            rw [decide_eq_true (show n = n ∧ ns = ns from ⟨rfl, rfl⟩)] at this
            exact this)
          have HBD := Lib.hid (⟨rfl, rfl, rfl, Nat.le_refl _, fun _ _ => rfl⟩ : Below w13.heap.size w13 w13.drew)
          have HBE := Lib.hid HST13.out.pf.base
          clear hui hn32 HST13 HX7 HKX
          go_region_held_law (fun W : World => W.cell? ⟨bm, 0, none⟩ = some (.int .i64 n) ∧ W.cell? ⟨bm, 1, none⟩ = some (.slice ua ns.length uc) ∧ W.cell? ⟨bx, 0, none⟩ = some (.int .i64 n) ∧ W.cell? ⟨bx, 1, none⟩ = some (.slice (some ⟨xb, xo, none⟩) ns.length xc))
            (first | exact HSK.out _ HBD.out | exact HSK.out _ hb14 | exact HSK.out _ hb15)
            (first
              | (go_simp; go_at_call 20; refine (HRF.out _ HBD.out).mono ?_; rintro e w14 ⟨rfl, h14⟩; have hb14 := HBD.out.trans (h14.mono HBD.out.size))
              | (go_simp; go_at_call 25; refine (HSM.out _ hb14).mono ?_; rintro e w15 ⟨rfl, h15⟩; have hb15 := hb14.trans (h15.mono hb14.size)))
          have HB15 := Lib.hid (HBE.out.trans (hb15.mono HBE.out.size))
          clear hb14 hb15 h14 h15 HSK HRF HSM HBD HBE
          go_simp
          go_wp2_with fail
          go_ret
          exact ⟨by first | rfl | simp, HB15.out⟩
end Go.Proofs.YtkdjkmnalkalpaaGreatDoor
