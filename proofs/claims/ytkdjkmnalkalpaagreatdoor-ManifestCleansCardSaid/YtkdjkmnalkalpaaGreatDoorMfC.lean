/- Package manifest: a manifest's bytes; a line, and lines; whether it is one. -/
import Derived.Test.YtkdjkmnalkalpaaGreatDoorMfT
import Derived.Test.YtkdjkmnalkalpaaGreatDoorSgJ
import Derived.Test.YtkdjkmnalkalpaaGreatDoorFsT
namespace Go.Proofs.YtkdjkmnalkalpaaGreatDoor
open Go.RowKit
set_option maxRecDepth 100000

def intsOf (l : List UInt8) : List Int := l.map fun b => (b.toNat : Int)
theorem intsOf_cells (l : List UInt8) : Lib.byteCells l = (intsOf l).map (Value.int .u8) := by unfold Lib.byteCells intsOf; rw [List.map_map]; rfl
theorem intsOf_length (l : List UInt8) : (intsOf l).length = l.length := by unfold intsOf; simp
theorem intsOf_bytes (l : List UInt8) : Lib.bytesOf (intsOf l) = l := by
  unfold Lib.bytesOf intsOf
  rw [List.map_map]
  conv => rhs; rw [← List.map_id l]
  apply List.map_congr_left
  intro b _
  simp
theorem intsOf_str (l : List UInt8) : strOfNums (intsOf l) = ⟨l.toArray⟩ := by
  have := intsOf_bytes l
  unfold Lib.bytesOf at this
  unfold strOfNums
  rw [this]
def digI (n : Int) : List Int := intsOf (Lib.decDigits n.toNat)
def lineI (n : Int) : List Int := digI n ++ [10]
def linesI (ns : List Int) : List Int := (ns.map lineI).flatten
def textM (n : Int) (ns : List Int) : List Int := lineI n ++ linesI ns
def manB (n : Int) (ns : List Int) : List Int := Fr.frameI 9 (textM n ns)
def risB : Int → List Int → Bool
  | _, [] => true
  | l, x :: r => decide (l < x) && decide (1 ≤ x ∧ x ≤ 2147483647) && risB x r
def GoodM (n : Int) (ns : List Int) : Prop := (1 ≤ n ∧ n ≤ 2147483647) ∧ (1 ≤ ns.length ∧ ns.length ≤ 32) ∧ risB 0 ns = true
instance (n : Int) (ns : List Int) : Decidable (GoodM n ns) := by unfold GoodM; exact inferInstance
theorem risB_mem : ∀ {ns : List Int} {l : Int}, risB l ns = true → ∀ x ∈ ns, 1 ≤ x ∧ x ≤ 2147483647
  | [], _, _, x, h => by cases h
  | y :: r, l, h, x, hx => by
    simp only [risB, Bool.and_eq_true, decide_eq_true_eq] at h
    rcases List.mem_cons.1 hx with rfl | hx
    · exact h.1.2
    · exact risB_mem h.2 x hx
theorem digI_byte (n : Int) : ∀ x ∈ digI n, 48 ≤ x ∧ x ≤ 57 := by
  intro x hx
  unfold digI intsOf at hx
  obtain ⟨c, hc, rfl⟩ := List.mem_map.1 hx
  have := digits_all n.toNat c hc
  omega
theorem digI_len {n : Int} (h : n ≤ 2147483647) : (digI n).length ≤ 10 := by
  unfold digI
  rw [intsOf_length]
  exact digits_len _ (by omega)
theorem digI_str (n : Int) : strOfNums (digI n) = dgS n.toNat := intsOf_str _
theorem lineI_byt (n : Int) : Fr.Byt (lineI n) := fun x hx => by
  rcases List.mem_append.1 hx with h | h
  · have := digI_byte n x h; omega
  · rw [List.mem_singleton] at h; omega
theorem lineI_len {n : Int} (h : n ≤ 2147483647) : (lineI n).length ≤ 11 := by
  have := digI_len h
  unfold lineI
  simp
  omega
theorem linesI_byt (ns : List Int) : Fr.Byt (linesI ns) := fun x hx => by
  obtain ⟨l, hl, hx⟩ := List.mem_flatten.1 hx
  obtain ⟨n, _, rfl⟩ := List.mem_map.1 hl
  exact lineI_byt n x hx
theorem linesI_len : ∀ {ns : List Int}, (∀ x ∈ ns, x ≤ 2147483647) → (linesI ns).length ≤ 11 * ns.length
  | [], _ => by simp [linesI]
  | y :: r, h => by
    have h1 := lineI_len (h y (by simp))
    have h2 := linesI_len (ns := r) fun x hx => h x (by simp [hx])
    have e : linesI (y :: r) = lineI y ++ linesI r := by unfold linesI; simp
    rw [e, List.length_append, List.length_cons]
    omega
theorem linesI_snoc (ns : List Int) (n : Int) : linesI (ns ++ [n]) = linesI ns ++ lineI n := by unfold linesI; simp
theorem textM_byt (n : Int) (ns : List Int) : Fr.Byt (textM n ns) := (lineI_byt n).append (linesI_byt ns)
theorem textM_len {n : Int} {ns : List Int} (h : GoodM n ns) : (textM n ns).length ≤ 363 := by
  have h1 := lineI_len h.1.2
  have h2 := linesI_len (ns := ns) fun x hx => (risB_mem h.2.2 x hx).2
  have h3 := h.2.1.2
  unfold textM
  simp
  omega
theorem atoi_line {n : Int} (h0 : 0 ≤ n) (h1 : n ≤ 2147483647) : atoiP (digI n) = some n := by
  unfold atoiP digI
  rw [intsOf_bytes, atoi_digits _ (by omega)]
  simp
  omega
theorem digI_ten (n : Int) : ∀ x ∈ digI n, x ≠ 10 := fun x hx => by have := digI_byte n x hx; omega
theorem cut_lines : ∀ (ns : List Int) (n : Int), cutP (trimP (textM n ns)) = digI n :: ns.map digI := by
  have key : ∀ (ns : List Int) (n : Int), cutP ((textM n ns).dropLast) = digI n :: ns.map digI := by
    intro ns
    induction ns with
    | nil =>
      intro n
      have e : (textM n []).dropLast = digI n := by unfold textM lineI linesI; simp
      rw [e, cutP_none (digI_ten n)]
      rfl
    | cons m r ih =>
      intro n
      have e : textM n (m :: r) = digI n ++ 10 :: textM m r := by unfold textM lineI linesI; simp [lineI]
      have hne : textM m r ≠ [] := by unfold textM lineI; simp
      rw [e, List.dropLast_append_of_ne_nil (by simp), List.dropLast_cons_of_ne_nil hne, cutP_line (digI_ten n), ih m]
      rfl
  intro ns n
  have hl : (textM n ns).getLast? = some 10 := by
    unfold textM
    rcases List.eq_nil_or_concat ns with rfl | ⟨l, x, rfl⟩
    · unfold lineI linesI; simp
    · have e : lineI n ++ linesI (l.concat x) = (lineI n ++ linesI l ++ digI x) ++ [10] := by
        rw [List.concat_eq_append, linesI_snoc]
        simp [lineI]
      rw [e, List.getLast?_concat]
  unfold trimP
  rw [if_pos hl]
  exact key ns n
theorem nums_lines : ∀ {ns : List Int}, (∀ x ∈ ns, 0 ≤ x ∧ x ≤ 2147483647) → numsP (ns.map digI) = some ns
  | [], _ => rfl
  | y :: r, h => by
    rw [List.map_cons]
    unfold numsP
    rw [atoi_line (h y (by simp)).1 (h y (by simp)).2, nums_lines fun x hx => h x (by simp [hx])]
theorem parse_text {n : Int} {ns : List Int} (h : GoodM n ns) : numsP (cutP (trimP (textM n ns))) = some (n :: ns) := by
  rw [cut_lines]
  exact nums_lines (ns := n :: ns) fun x hx => by
    rcases List.mem_cons.1 hx with rfl | hx
    · have := h.1; omega
    · have := risB_mem h.2.2 x hx; omega
def decM (b : List Int) : Option (Int × List Int) :=
  if (Fr.decodeI b).2.2 = 0 then match numsP (cutP (trimP (Fr.decodeI b).2.1)) with
    | some (n :: ns) => if GoodM n ns ∧ manB n ns = b then some (n, ns) else none
    | _ => none
  else none
theorem decM_some {b : List Int} {n : Int} {ns : List Int} (h : decM b = some (n, ns)) : GoodM n ns ∧ manB n ns = b := by
  unfold decM at h
  split at h
  · split at h
    · split at h
      · cases h; assumption
      · cases h
    · cases h
  · cases h
theorem decM_enc {n : Int} {ns : List Int} (h : GoodM n ns) : decM (manB n ns) = some (n, ns) := by
  have hd : Fr.decodeI (manB n ns) = (9, textM n ns, 0) := Fr.decodeI_frame (by decide) (by decide) (textM_byt n ns) (by have := textM_len h; omega)
  unfold decM
  rw [hd, if_pos rfl]
  simp only [parse_text h]
  rw [if_pos ⟨h, trivial⟩]
end Go.Proofs.YtkdjkmnalkalpaaGreatDoor
