/- Package manifest: a range over bytes' lines: what a round is told, what the iterator does, and the statement as a whole. -/
import Derived.RangeFuncNested
import Derived.RangeFuncBound
import Derived.RangeFuncCalls
import Derived.RangeFuncLeaves
import Derived.RangeFuncBox
import Derived.Shelf.Abstract
import Derived.Shelf.RegionOpen
import Derived.WalkKit
import Derived.OwnWalkIn
import Derived.TacticsInMore
import Derived.LoopNIn
import Derived.LoopIn
import Derived.Maps.AppendAt
import Derived.Test.YtkdjkmnalkalpaaGreatDoorShelf
import Derived.Test.YtkdjkmnalkalpaaGreatDoorMfA
namespace Go.Proofs.YtkdjkmnalkalpaaGreatDoor
open Go.RowKit Go.Shelf
attribute [local go_sem] Oper.semAt_some
set_option maxRecDepth 100000

def PieceV (K : Nat → Prop) (Bs : Nat) (W : World) (u : Value) (x : List Int) : Prop :=
  ∃ p c, u = .slice p x.length c ∧ x.length ≤ c ∧ (p = none → c = 0) ∧ (0 < x.length → ∃ b o, p = some ⟨b, o, none⟩ ∧ K b ∧ b ≠ Bs ∧ ∀ i, i < x.length → W.cell? ⟨b, o + i, none⟩ = some (.int .u8 (x.getD i 0)))
theorem PieceV.to {K : Nat → Prop} {Bs : Nat} {W W' : World} {u : Value} {x : List Int} (h : PieceV K Bs W u x) (hk : ∀ k, K k → k ≠ Bs → W'.heap[k]? = W.heap[k]?) : PieceV K Bs W' u x := by
  obtain ⟨p, c, h1, h2, hz, h3⟩ := h
  exact ⟨p, c, h1, h2, hz, fun h0 => by
    obtain ⟨b, o, e, hb, hn, hc⟩ := h3 h0
    exact ⟨b, o, e, hb, hn, fun i hi => by rw [World.cell?_of_block (w := W) (hk b hb hn)]; exact hc i hi⟩⟩
structure SeqAt (K : Nat → Prop) (Bs Be B0 eb : Nat) (W : World) (sv : Value) (r : List Int) : Prop where
  s : Boxed W Bs 38 sv
  v : PieceV K Bs W sv r
  e : Boxed W Be 38 (.slice (some ⟨eb, 0, none⟩) 1 1)
  c : W.cell? ⟨eb, 0, none⟩ = some (.int .u8 10)
  z : Boxed W B0 3 (.int .i64 0)
  ks : K Bs
  ke : K Be
  kc : K eb
  kz : K B0
  ne : Be ≠ Bs
  nc : eb ≠ Bs
  nz : B0 ≠ Bs
theorem SeqAt.to {K : Nat → Prop} {Bs Be B0 eb : Nat} {W W' : World} {sv : Value} {r : List Int} (h : SeqAt K Bs Be B0 eb W sv r) (hk : ∀ k, K k → W'.heap[k]? = W.heap[k]?) : SeqAt K Bs Be B0 eb W' sv r :=
  ⟨(hk _ h.ks).trans h.s, h.v.to fun k h1 _ => hk k h1, (hk _ h.ke).trans h.e, by rw [World.cell?_of_block (w := W) (hk _ h.kc)]; exact h.c, (hk _ h.kz).trans h.z, h.ks, h.ke, h.kc, h.kz, h.ne, h.nc, h.nz⟩
theorem SeqAt.set {K : Nat → Prop} {Bs Be B0 eb : Nat} {W : World} {sv sv' : Value} {r r' : List Int} (h : SeqAt K Bs Be B0 eb W sv r) (hv : PieceV K Bs W sv' r') : SeqAt K Bs Be B0 eb (W.setCell ⟨Bs, 0, none⟩ sv') sv' r' :=
  have ho : ∀ k, k ≠ Bs → (W.setCell ⟨Bs, 0, none⟩ sv').heap[k]? = W.heap[k]? := fun k hk => Below.heap_setCell W ⟨Bs, 0, none⟩ sv' k hk
  ⟨h.s.set sv', hv.to fun k _ h2 => ho k h2, (ho _ h.ne).trans h.e, by rw [World.cell?_of_block (w := W) (ho _ h.nc)]; exact h.c, (ho _ h.nz).trans h.z, h.ks, h.ke, h.kc, h.kz, h.ne, h.nc, h.nz⟩
def lenV : Value → Nat
  | .slice _ n _ => n
  | _ => 0
def leftB (W : World) (b : Nat) : Nat := match W.cell? ⟨b, 0, none⟩ with
  | some v => lenV v
  | none => 0
theorem SeqAt.left {K : Nat → Prop} {Bs Be B0 eb : Nat} {W : World} {sv : Value} {r : List Int} (h : SeqAt K Bs Be B0 eb W sv r) : leftB W Bs = r.length := by
  obtain ⟨p, c, hv, _⟩ := h.v
  unfold leftB
  rw [h.s.cell, hv]
  rfl
theorem index_any {K : Nat → Prop} {Bs : Nat} {W : World} {p : Option Addr} {c eb : Nat} {r : List Int} (h : PieceV K Bs W (.slice p r.length c) r) (hc : W.cell? ⟨eb, 0, none⟩ = some (.int .u8 10)) :
    Calls Tryz.prog 221 #[.slice p r.length c, .slice (some ⟨eb, 0, none⟩) 1 1] W fun e w' => e = .returned (.int .i64 (Lib.indexByte (Lib.bytesOf r) (10 : Int).toNat.toUInt8)) ∧ w' = W := by
  obtain ⟨p', c', e, h2, hz, h3⟩ := h
  cases e
  cases r with
  | nil =>
    cases p with
    | none => obtain rfl := hz rfl; exact Tryz.bytes_Index_one_nil eb 0 1 10 W hc
    | some a => exact Tryz.bytes_Index_one_at a 0 c eb 0 1 [] 10 W rfl (fun i hi => by omega) hc
  | cons x r =>
    obtain ⟨b, o, rfl, _, _, h4⟩ := h3 (by simp)
    exact Tryz.bytes_Index_one_at ⟨b, o, none⟩ _ c eb 0 1 (x :: r) 10 W rfl (fun i hi => by rw [Go.WideShapes.add_plain]; exact h4 i hi) hc
theorem piece_take {K : Nat → Prop} {Bs : Nat} {W : World} {p : Option Addr} {c : Nat} {r : List Int} (h : PieceV K Bs W (.slice p r.length c) r) {i : Nat} (hi : i ≤ r.length) : PieceV K Bs W (.slice p i i) (r.take i) := by
  obtain ⟨p', c', e, h2, hz, h3⟩ := h
  cases e
  have hl : (r.take i).length = i := by simp; omega
  refine ⟨p, i, by rw [hl], by omega, fun e => ?_, fun h0 => ?_⟩
  · have := hz e; omega
  · obtain ⟨b, o, e, hb, hn, hc⟩ := h3 (by omega)
    exact ⟨b, o, e, hb, hn, fun j hj => by rw [hc j (by omega), List.getD_eq_getElem?_getD, List.getD_eq_getElem?_getD, List.getElem?_take_of_lt (by omega)]⟩
theorem piece_drop {K : Nat → Prop} {Bs : Nat} {W : World} {p : Option Addr} {c : Nat} {r : List Int} (h : PieceV K Bs W (.slice p r.length c) r) {j : Nat} (hj : j ≤ r.length) :
    PieceV K Bs W (.slice (if c = j then p else p.map (·.add (j * 1))) (r.length - j) (c - j)) (r.drop j) := by
  obtain ⟨h2, hz, h3⟩ : r.length ≤ c ∧ (p = none → c = 0) ∧ (0 < r.length → ∃ b o, p = some ⟨b, o, none⟩ ∧ K b ∧ b ≠ Bs ∧ ∀ i, i < r.length → W.cell? ⟨b, o + i, none⟩ = some (.int .u8 (r.getD i 0))) := by
    obtain ⟨p', c', e, h2, hz, h3⟩ := h
    cases e
    exact ⟨h2, hz, h3⟩
  clear h
  have hl : (r.drop j).length = r.length - j := by simp
  have hle : r.length - j ≤ c - j := Nat.sub_le_sub_right h2 j
  have hnil : (if c = j then p else p.map (·.add (j * 1))) = none → c - j = 0 := fun e => by
    by_cases hc : c = j
    · omega
    · rw [if_neg hc] at e
      cases p with
      | none => have := hz rfl; omega
      | some a => cases e
  refine ⟨_, _, by rw [hl], by rw [hl]; exact hle, hnil, fun h0 => ?_⟩
  rw [hl] at h0
  have h1 : 0 < r.length := by omega
  obtain ⟨b, o, rfl, hb, hn, hc⟩ := h3 h1
  clear h3
  have hcj : ¬ c = j := by omega
  refine ⟨b, o + j, ?_, hb, hn, fun k hk => ?_⟩
  · rw [if_neg hcj]
    simp [Go.WideShapes.add_plain]
  · rw [hl] at hk
    have hjk : j + k < r.length := by omega
    rw [Nat.add_assoc, hc (j + k) hjk, List.getD_eq_getElem?_getD, List.getD_eq_getElem?_getD, List.getElem?_drop]
set_option maxHeartbeats 4000000 in
/-- The iterator, whatever a round does that keeps what it has captured. -/
theorem seq_in (n l Bs Be B0 eb : Nat) (hn : 2 ≤ n) (K : Nat → Prop) (q : List Int) (hq : Fr.Byt q) (hql : q.length < 9223372036854775807) (J Jx : List (List Int) → World → Prop)
    (hJs : ∀ pre W v, J pre W → J pre (W.setCell ⟨Bs, 0, none⟩ v))
    (hY : ∀ pre x rest u W, J pre W → cutP q = pre ++ x :: rest → PieceV K Bs W u x → YieldAt Fence.wide (n - 1) Tryz.prog l #[u] W fun e W' =>
      (e = .returned (.bool true) ∧ J (pre ++ [x]) W' ∧ ∀ k, K k → W'.heap[k]? = W.heap[k]?) ∨ (e = .returned (.bool false) ∧ Jx (pre ++ [x]) W'))
    (W : World) (sv : Value) (hS : SeqAt K Bs Be B0 eb W sv q) (h0 : J [] W) :
    CallsIn Fence.wide n Tryz.prog 219 #[.func (.yield l) #[] #[], .pointer (some ⟨Be, 0, none⟩), .pointer (some ⟨Bs, 0, none⟩), .pointer (some ⟨B0, 0, none⟩)] W fun e W' => (∃ v, e = .returned v) ∧
      (J (cutP q) W' ∨ ∃ pre, pre <+: cutP q ∧ Jx pre W') := by
  have h1 : 1 ≤ n := by omega
  refine callsIn_of_wp Tryz.func219 rfl trivial ?_ rfl
  simp only [Tryz.ntmps219, List.size_toArray, List.length_cons, List.length_nil, Nat.reduceAdd, Nat.reduceSub, Array.replicate_succ, Array.replicate_zero, List.push_toArray, List.append_toArray, List.nil_append, List.cons_append]
  have ce := hS.e.cell
  gi_wp2
  gi_loopw [7] (fun _ wr => ∃ (pre : List (List Int)) (r : List Int) (v : Value), cutP q = pre ++ cutP r ∧ J pre wr ∧ SeqAt K Bs Be B0 eb wr v r ∧ Fr.Byt r ∧ r.length ≤ q.length)
    (fun _ wr => leftB wr Bs)
  case atStart => exact ⟨[], q, sv, rfl, h0, hS, hq, Nat.le_refl _⟩
  case round =>
    clear hS h0 ce
    obtain ⟨pre, r, v, hx, hJ, hS, hb, hl⟩ := hrel
    obtain ⟨p, c, rfl, hcl, hz, hcells⟩ := hS.v
    have hpv : PieceV K Bs wr (.slice p r.length c) r := hS.v
    have cs := hS.s.cell
    have ce := hS.e.cell
    have cz := hS.z.cell
    have fs := hS.s.frozen
    have HIX := Lib.hid (index_any hpv hS.c)
    rcases indexByte_p hb with ⟨h10, hix⟩ | ⟨i, hi, h10, hno, hix⟩
    · rw [hix] at HIX
      have hcp : cutP r = [r] := cutP_none h10
      have hfull := piece_take hpv (Nat.le_refl _)
      rw [List.take_length] at hfull
      obtain ⟨fn, tmps, assign, body, hy, hR⟩ := hY pre r [] _ wr hJ (by rw [hx, hcp]) hfull
      gi_wp2
      refine ⟨trivial, ?_⟩
      refine (callsIn_wide.2 HIX.out).mono ?_; rintro e w1 ⟨rfl, rfl⟩
      gi_wp2
      refine hR.mono ?_
      rintro e w2 (⟨rfl, hJ2, _⟩ | ⟨rfl, hJ2⟩)
      · gi_wp2
        go_end0
        exact ⟨⟨_, rfl⟩, .inl (by rw [hx, hcp]; exact hJ2)⟩
      · gi_wp2
        go_end0
        exact ⟨⟨_, rfl⟩, .inr ⟨_, by rw [hx, hcp]; exact List.prefix_refl _, hJ2⟩⟩
    · rw [hix] at HIX
      have hcp := cutP_at h10 hno
      have hpre := piece_take hpv (Nat.le_of_lt hi)
      have hdrop := piece_drop hpv (show i + 1 ≤ r.length by omega)
      rw [show (fun x : Addr => x.add ((i + 1) * 1)) = (fun x : Addr => (⟨x.block, x.off + (i + 1), none⟩ : Addr)) by funext x; simp [Addr.add]] at hdrop
      obtain ⟨fn, tmps, assign, body, hy, hR⟩ := hY pre (r.take i) (cutP (r.drop (i + 1))) _ wr hJ (by rw [hx, hcp]) hpre
      have l1 : (i : Int) < r.length := by omega
      have l2 : (r.length : Int) ≤ c := by omega
      have l3 : (r.length : Int) ≤ 9223372036854775806 := by omega
      have HYY := Lib.hid hy
      clear hy
      have HX := Lib.hid hx
      have HCP := Lib.hid hcp
      have HPR := Lib.hid hpre
      have HDR := Lib.hid hdrop
      have HS := Lib.hid hS
      have HB := Lib.hid hb
      have HJ := Lib.hid hJ
      clear hx hcp hpre hdrop h10 hno hix hS hb hJ hcells hpv
      gi_wp2
      refine ⟨trivial, ?_⟩
      refine (callsIn_wide.2 HIX.out).mono ?_; rintro e w1 ⟨rfl, rfl⟩
      gi_wp2
      simp only [HYY.out]
      gi_wp2
      refine hR.mono ?_
      rintro e w2 (⟨rfl, hJ2, hk2⟩ | ⟨rfl, hJ2⟩)
      · have HJ2 := Lib.hid hJ2
        have hS2 := HS.out.to hk2
        have HPV := Lib.hid (HDR.out.to fun k h _ => hk2 k h)
        have HS2 := Lib.hid hS2
        have cs := hS2.s.cell
        have ce := hS2.e.cell
        have fs := hS2.s.frozen
        clear hJ2 hk2 hS2
        gi_wp2
        go_roundw
        case rel => exact ⟨pre ++ [r.take i], r.drop (i + 1), _, by rw [HX.out, HCP.out]; simp, hJs _ _ _ HJ2.out, HS2.out.set HPV.out, HB.out.drop _, by have := hl; rw [List.length_drop]; omega⟩
        case measure => rw [(HS2.out.set HPV.out).left, HS.out.left, List.length_drop]; omega
      · gi_wp2
        refine bodyPost_ret (results_none rfl _ _ _) rfl ?_
        exact ⟨⟨_, rfl⟩, .inr ⟨_, by rw [HX.out, HCP.out]; exact ⟨cutP (r.drop (i + 1)), by simp⟩, hJ2⟩⟩
end Go.Proofs.YtkdjkmnalkalpaaGreatDoor
