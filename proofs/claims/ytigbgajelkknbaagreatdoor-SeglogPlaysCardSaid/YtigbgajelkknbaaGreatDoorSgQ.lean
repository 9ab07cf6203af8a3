/- SeglogPlays: are entries the document's? The reference's 'Read' of segments. -/
import Derived.Test.YtigbgajelkknbaaGreatDoorSgP
namespace Go.Proofs.YtigbgajelkknbaaGreatDoor
open Go.RowKit
set_option maxRecDepth 100000

/-- Entries of the reference, in memory. -/
def cellsQ (es : List (Int × Int × List Int)) : List Value := es.flatMap fun t => [.int .i64 t.1, .int .i64 t.2.1, .string (strOfNums t.2.2)]
theorem cellsQ_append (a b : List (Int × Int × List Int)) : cellsQ (a ++ b) = cellsQ a ++ cellsQ b := by unfold cellsQ; rw [List.flatMap_append]
theorem cellsQ_get : ∀ (xs : List (Int × Int × List Int)) (i : Nat) (t : Int × Int × List Int), xs[i]? = some t → (cellsQ xs)[i * 3]? = some (.int .i64 t.1) ∧ (cellsQ xs)[i * 3 + 1]? = some (.int .i64 t.2.1) ∧ (cellsQ xs)[i * 3 + 2]? = some (.string (strOfNums t.2.2))
  | [], _, _, h => by cases h
  | t :: xs, 0, t', h => by cases h; exact ⟨rfl, rfl, rfl⟩
  | t :: xs, i + 1, t', h => by
    have := cellsQ_get xs i t' (by simpa using h)
    have e : cellsQ (t :: xs) = .int .i64 t.1 :: .int .i64 t.2.1 :: .string (strOfNums t.2.2) :: cellsQ xs := by unfold cellsQ; rw [List.flatMap_cons]; rfl
    rw [e, show (i + 1) * 3 = i * 3 + 1 + 1 + 1 by omega]
    exact this
def EntQ (w : World) (base : Nat) (v : Value) (es : List (Int × Int × List Int)) : Prop := w.ownsRow base 149 3 v es.length (cellsQ es)
theorem EntQ.nil (w : World) (base : Nat) : EntQ w base (.slice none 0 0) [] := World.ownsRow_nil _ _ _ _
theorem EntQ.slice {w : World} {base : Nat} {v : Value} {es : List (Int × Int × List Int)} (h : EntQ w base v es) : ∃ a c, v = .slice a es.length c := own_slice h
set_option maxHeartbeats 16000000 in
theorem same_any (base base' : Nat) (v v' : Value) (es : List EntT) (w : World) (h : Ents w base v es) (h' : EntQ w base' v' (plainE es)) (hl : es.length ≤ 1000000) :
    Calls Tryz.prog 22 #[v, v'] w fun e w' => e = .returned (.bool true) ∧ Below w.heap.size w w' := by
  obtain ⟨va, vc, rfl⟩ := h.slice
  obtain ⟨vb, vd, rfl⟩ := h'.slice
  have hpl : (plainE es).length = es.length := by unfold plainE; rw [List.length_map]
  have hown := h.own
  have hpay := h.pay
  have hown' : w.ownsRow base' 149 3 (.slice vb (plainE es).length vd) (plainE es).length (cellsQ (plainE es)) := h'
  rw [hpl] at hown' ⊢
  obtain ⟨m, hm⟩ : ∃ m, m = es.length := ⟨_, rfl⟩
  rw [← hm] at hown hown' ⊢
  have HO := Lib.hid hown
  have HO' := Lib.hid hown'
  have HP := Lib.hid hpay
  have HM := Lib.hid hm
  have hl' : m ≤ 1000000 := by omega
  have HL := Lib.hid hl'
  clear h h' hpl hown hown' hpay hm hl hl'
  go_enter Tryz.func22, Tryz.ntmps22
  go_wp2_with fail
  go_loopw [5, 13] (fun _ s13 wr => ∃ i : Nat, i ≤ m ∧ s13 = .int .i64 i ∧ Below w.heap.size w wr)
    (fun _ s13 _ => m - (intOf s13).toNat)
  case atStart => exact ⟨0, Nat.zero_le _, rfl, Below.refl _ _⟩
  case round =>
    obtain ⟨i, hi, rfl, hb⟩ := hrel
    have HB := Lib.hid hb
    have hm := HL.out
    clear hb
    by_cases hlt : i < m
    · have lt : (i : Int) < m := by omega
      obtain ⟨q, rfl, _, hql, hcl⟩ := ownsRow_at HO.out (by omega)
      obtain ⟨q', rfl, _, hql', hcl'⟩ := ownsRow_at HO'.out (by omega)
      obtain ⟨t, ht⟩ : ∃ t, es[i]? = some t := ⟨_, List.getElem?_eq_getElem (by have := HM.out; omega)⟩
      obtain ⟨id, k, p, u⟩ := t
      have ht' : (plainE es)[i]? = some (id, k, p) := by unfold plainE; rw [List.getElem?_map, ht]; rfl
      obtain ⟨c0, c1, c2⟩ := cellsE_get es i _ ht
      obtain ⟨e0, e1, e2⟩ := cellsQ_get (plainE es) i _ ht'
      have hpay1 : Fr.OwnB w base u p := HP.out _ (List.mem_of_getElem? ht)
      obtain ⟨ua, uc, rfl⟩ := hpay1.slice
      have d0 : wr.cell? ⟨q, i * 3, none⟩ = some (.int .i64 id) := (HB.out.cell (p := ⟨q, i * 3, none⟩) hql).trans (hcl _ _ c0)
      have d1 : wr.cell? ⟨q, i * 3 + 1, none⟩ = some (.int .i64 k) := (HB.out.cell (p := ⟨q, i * 3 + 1, none⟩) hql).trans (hcl _ _ c1)
      have d2 : wr.cell? ⟨q, i * 3 + 1 + 1, none⟩ = some (.slice ua p.length uc) := (HB.out.cell (p := ⟨q, i * 3 + 1 + 1, none⟩) hql).trans (hcl _ _ c2)
      have f0 : wr.cell? ⟨q', i * 3, none⟩ = some (.int .i64 id) := (HB.out.cell (p := ⟨q', i * 3, none⟩) hql').trans (hcl' _ _ e0)
      have f1 : wr.cell? ⟨q', i * 3 + 1, none⟩ = some (.int .i64 k) := (HB.out.cell (p := ⟨q', i * 3 + 1, none⟩) hql').trans (hcl' _ _ e1)
      have f2 : wr.cell? ⟨q', i * 3 + 1 + 1, none⟩ = some (.string (strOfNums p)) := (HB.out.cell (p := ⟨q', i * 3 + 1 + 1, none⟩) hql').trans (hcl' _ _ e2)
      have hbb : Bytes wr (.slice ua p.length uc) p := (OwnD.bytes hpay1).below HB.out
      have hcv : ∀ n, (convert 37 9 (.slice ua p.length uc)).run Tryz.prog (wr.drewN n) = .ok (.string (strOfNums p)) (wr.drewN n) := fun n => run_string (hbb.below (Below.drewN (Below.refl _ wr) n))
      generalize strOfNums p = T at *
      generalize p.length = pl at *
      clear hcl hcl' hql hql' ht ht' c0 c1 c2 e0 e1 e2 hpay1 hbb
      go_upto_region 6 with fail
      go_quiet (fail)
      clear d0 d1 d2 f0 f1 f2 hcv
      go_wp2_with fail
      go_roundw
      case rel => exact ⟨i + 1, by omega, by go_num, Below.drewN HB.out _⟩
      case measure => simp [intOf]; omega
    · have lt : ¬ (i : Int) < m := by omega
      clear hlt
      go_wp2_with fail
      go_ret
      exact ⟨rfl, HB.out⟩
end Go.Proofs.YtigbgajelkknbaaGreatDoor
