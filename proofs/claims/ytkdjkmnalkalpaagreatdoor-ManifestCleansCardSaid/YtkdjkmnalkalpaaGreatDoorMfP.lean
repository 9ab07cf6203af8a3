/- Package manifest: the numbers of lines: what parse answers. -/
import Derived.Test.YtkdjkmnalkalpaaGreatDoorMfR

namespace Go.Proofs.YtkdjkmnalkalpaaGreatDoor
open Go.RowKit Go.Shelf
attribute [local go_sem] Oper.semAt_some
set_option maxRecDepth 100000

set_option maxHeartbeats 1000000 in
theorem splitSeq_any (u v : Value) (w : World) (ha : u.oneCell' = true) (hb : v.oneCell' = true) :
    Calls Tryz.prog 153 #[u, v] w fun e w' => e = .returned (.func (.func 219) #[] #[.pointer (some ⟨w.heap.size + 1, 0, none⟩), .pointer (some ⟨w.heap.size, 0, none⟩), .pointer (some ⟨w.heap.size + 2, 0, none⟩)]) ∧
      w' = ((w.alloc (.cells #[u] 38)).alloc (.cells #[v] 38)).alloc (.cells #[.int .i64 0] 3) := by
  have h1 : Calls Tryz.prog 197 #[u, v, .int .i64 0] w fun e w' => e = .returned (.func (.func 219) #[] #[.pointer (some ⟨w.heap.size + 1, 0, none⟩), .pointer (some ⟨w.heap.size, 0, none⟩), .pointer (some ⟨w.heap.size + 2, 0, none⟩)]) ∧
      w' = ((w.alloc (.cells #[u] 38)).alloc (.cells #[v] 38)).alloc (.cells #[.int .i64 0] 3) := by
    go_enter Tryz.func197, Tryz.ntmps197
    go_wp2
    go_ret
    exact ⟨rfl, rfl⟩
  go_enter Tryz.func153, Tryz.ntmps153
  go_wp2_with fail
  refine h1.mono ?_; rintro e w1 ⟨rfl, rfl⟩
  go_wp2_with fail
  go_ret
  exact ⟨rfl, rfl⟩
theorem hasSuffix_ten {q : List Int} (hb : Fr.Byt q) : Lib.hasSuffix (Lib.bytesOf q) (Lib.bytesOf [10]) = decide (q.getLast? = some 10) := by
  rcases List.eq_nil_or_concat q with rfl | ⟨l, x, rfl⟩
  · decide
  · have hx := hb x (by simp)
    rw [List.concat_eq_append, List.getLast?_concat]
    unfold Lib.hasSuffix Lib.bytesOf
    rw [Bool.eq_iff_iff, List.isSuffixOf_iff_suffix, List.map_append]
    simp only [List.map_cons, List.map_nil, decide_eq_true_eq, Option.some.injEq]
    constructor
    · intro h
      obtain ⟨t, ht⟩ := h
      have h2 := List.append_inj_right' ht rfl
      simp only [List.cons.injEq, and_true] at h2
      have h3 := congrArg UInt8.toNat h2
      simp at h3
      omega
    · rintro rfl
      exact List.suffix_append _ _
theorem trim_any (p : Option Addr) (q : List Int) (c eb : Nat) (w : World) (K : Nat → Prop) (Bs : Nat) (hp : PieceV K Bs w (.slice p q.length c) q) (hb : Fr.Byt q) (hl : q.length < 9223372036854775807) (hc : w.cell? ⟨eb, 0, none⟩ = some (.int .u8 10)) :
    Calls Tryz.prog 154 #[.slice p q.length c, .slice (some ⟨eb, 0, none⟩) 1 1] w fun e w' => (∃ u, e = .returned u ∧ u.oneCell' = true ∧ PieceV K Bs w u (trimP q)) ∧ w' = w := by
  obtain ⟨h2, hz, h3⟩ : q.length ≤ c ∧ (p = none → c = 0) ∧ (0 < q.length → ∃ b o, p = some ⟨b, o, none⟩ ∧ K b ∧ b ≠ Bs ∧ ∀ i, i < q.length → w.cell? ⟨b, o + i, none⟩ = some (.int .u8 (q.getD i 0))) := by
    obtain ⟨p', c', e, h2, hz, h3⟩ := hp
    cases e
    exact ⟨h2, hz, h3⟩
  have h1 : Lib.BytesIn w p q.length q := fun h0 => by
    obtain ⟨b, o, e, _, _, hcc⟩ := h3 h0
    exact ⟨b, o, e, hcc⟩
  have h4 : Lib.BytesIn w (some ⟨eb, 0, none⟩) 1 [10] := fun _ => ⟨eb, 0, rfl, fun i hi => by
    obtain rfl : i = 0 := by omega
    exact hc⟩
  refine (Tryz.bytes_TrimSuffix_all p (some ⟨eb, 0, none⟩) q.length c 1 1 q [10] w rfl rfl h2 (by omega) h1 h4).mono ?_
  rintro e w' ⟨rfl, rfl⟩
  refine ⟨⟨_, rfl, ?_⟩, rfl⟩
  by_cases h0 : q.length = 0
  · obtain rfl : q = [] := List.eq_nil_of_length_eq_zero h0
    have e1 : Lib.trimSuffixV p (([] : List Int).length) c [] [10] = .slice p 0 c := by
      cases p with
      | none => rfl
      | some a =>
        obtain ⟨b, o, s⟩ := a
        cases s with
        | some _ => rfl
        | none => rfl
    rw [e1]
    refine ⟨rfl, ?_⟩
    exact ⟨p, c, rfl, h2, hz, fun h => by simp [trimP] at h⟩
  · obtain ⟨b, o, rfl, hK, hne, hcc⟩ := h3 (by omega)
    have e1 : Lib.trimSuffixV (some ⟨b, o, none⟩) q.length c q [10] = .slice (some ⟨b, o, none⟩) (trimP q).length c := by
      show Lib.bytesTrimSuffix b o q.length c q [10] = _
      unfold Lib.bytesTrimSuffix trimP
      rw [hasSuffix_ten hb]
      by_cases ht : q.getLast? = some 10
      · rw [if_pos (by simpa using ht), if_pos ht, List.length_dropLast]; rfl
      · rw [if_neg (by simpa using ht), if_neg ht]
    have hle : (trimP q).length ≤ q.length := by unfold trimP; split <;> simp
    have hget : ∀ i, i < (trimP q).length → (trimP q).getD i 0 = q.getD i 0 := fun i hi => by
      unfold trimP at hi ⊢
      split
      · rw [if_pos ‹_›] at hi
        rw [List.getD_eq_getElem?_getD, List.getD_eq_getElem?_getD, List.getElem?_dropLast, if_pos (by simpa using hi)]
      · rfl
    rw [e1]
    exact ⟨rfl, some ⟨b, o, none⟩, c, rfl, by omega, (fun e => by cases e), fun _ => ⟨b, o, rfl, hK, hne, fun i hi => by rw [hget i hi]; exact hcc i (by omega)⟩⟩
end Go.Proofs.YtkdjkmnalkalpaaGreatDoor
