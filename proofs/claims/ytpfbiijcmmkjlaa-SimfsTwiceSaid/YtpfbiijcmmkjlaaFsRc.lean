/- The reference of layer 2 (rubricref02): what 'step' makes of a file system. -/
import Derived.Test.YtpfbiijcmmkjlaaFsRb
namespace Go.Proofs.Ytpfbiijcmmkjlaa
open Go.RowKit

/-- The value v is a slice of these numbers, wherever; it has room for them. -/
def RPlan (w : World) (v : Value) (p : List Int) : Prop :=
  (v = .slice none 0 0 ∧ p = []) ∨ (∃ a, v = .slice (some a) 0 0 ∧ p = []) ∨ ∃ pb po cap, v = .slice (some ⟨pb, po, none⟩) p.length cap ∧ p.length ≤ cap ∧ pb < w.heap.size ∧ w.rangeAt pb po (p.map (Value.int .i64))
theorem RPlan.slice {w : World} {v : Value} {p : List Int} (h : RPlan w v p) : ∃ a c, v = .slice a p.length c := by
  rcases h with ⟨rfl, rfl⟩ | ⟨a, rfl, rfl⟩ | ⟨pb, po, cap, rfl, _⟩
  · exact ⟨_, _, rfl⟩
  · exact ⟨_, _, rfl⟩
  · exact ⟨_, _, rfl⟩
theorem RPlan.below {w w' : World} {v : Value} {p : List Int} (h : RPlan w v p) (hb : Below w.heap.size w w') : RPlan w' v p := by
  rcases h with h | h | ⟨pb, po, cap, rfl, h2, h3, h4⟩
  · exact .inl h
  · exact .inr (.inl h)
  · exact .inr (.inr ⟨pb, po, cap, rfl, h2, Nat.lt_of_lt_of_le h3 hb.size, fun j u hu => by rw [World.cell?_of_block (w := w) (hb.block pb h3)]; exact h4 j u hu⟩)
theorem RPlan.tail {w : World} {pb po cap : Nat} {k : Int} {p : List Int} (h2 : (k :: p).length ≤ cap) (h3 : pb < w.heap.size) (h4 : w.rangeAt pb po ((k :: p).map (Value.int .i64))) {po' cap' : Nat} (h : p = [] ∧ po' = po ∧ cap' = 0 ∨ po' = po + 1 ∧ cap' = cap - 1) :
    RPlan w (.slice (some ⟨pb, po', none⟩) p.length cap') p := by
  rcases h with ⟨rfl, rfl, rfl⟩ | ⟨rfl, rfl⟩
  · exact .inr (.inl ⟨_, rfl, rfl⟩)
  · refine .inr (.inr ⟨pb, po + 1, cap - 1, rfl, by simp at h2; omega, h3, fun j u hu => ?_⟩)
    have := h4 (j + 1) u (by simpa using hu)
    rwa [show po + (j + 1) = po + 1 + j by omega] at this
/-- A file system of the reference, as a value. -/
def fsV (room : Int) (f d s c : Value) (steps left : Int) (p : Value) : Value := .agg #[.int .i64 room, f, d, s, c, .int .i64 steps, .int .i64 left, p]
/-- Its cells. -/
def fsC (room : Int) (f d s c : Value) (steps left : Int) (p : Value) : List Value := [.int .i64 room, f, d, s, c, .int .i64 steps, .int .i64 left, p]
/-- What 'step' tells of a number that was planned. -/
def codeR (k : Int) : Int := if k = 0 then 0 else if k = 2 then 21 else 20
def howR (p : List Int) : Int := p.headD 0
/-- Behind a step: left, steps, plan, how, the error. -/
def leftR (left : Int) : Int := if left > 0 then left - 1 else left
set_option maxRecDepth 100000 in
set_option maxHeartbeats 2000000 in
theorem refStep_dead (room steps : Int) (fa : Option Addr) (fn fc : Nat) (da : Option Addr) (dn dc : Nat) (sa : Option Addr) (sn sc : Nat) (ca : Option Addr) (cn cc : Nat) (pa : Option Addr) (pn pc : Nat) (w : World) :
    Calls Try.prog 49 #[fsV room (.slice fa fn fc) (.slice da dn dc) (.slice sa sn sc) (.slice ca cn cc) steps 0 (.slice pa pn pc)] w fun e w' =>
      e = .returned (.tuple #[fsV room (.slice fa fn fc) (.slice da dn dc) (.slice sa sn sc) (.slice ca cn cc) steps 0 (.slice pa pn pc), .int .i64 0, .int .i64 22]) ∧ Below w.heap.size w w' := by
  unfold fsV
  go_enter Try.func49, Try.ntmps49
  go_wp2_with fail
  refine bodyPost_ret (v := .tuple #[.agg #[.int .i64 room, .slice fa fn fc, .slice da dn dc, .slice sa sn sc, .slice ca cn cc, .int .i64 steps, .int .i64 0, .slice pa pn pc], .int .i64 0, .int .i64 22]) (by simp [results, Try.results49, go_sem]) rfl ⟨rfl, ?_⟩
  exact ((Below.refl _ _).alloc (Nat.le_refl _) _).alloc (by simp) _
set_option maxRecDepth 100000 in
set_option maxHeartbeats 2000000 in
theorem refStep_any (room steps left : Int) (fa : Option Addr) (fn fc : Nat) (da : Option Addr) (dn dc : Nat) (sa : Option Addr) (sn sc : Nat) (ca : Option Addr) (cn cc : Nat) (pv : Value) (p : List Int) (w : World) (hp : RPlan w pv p) (hpl : p.length < 4611686018427387904)
    (hs : 0 ≤ steps ∧ steps < 4611686018427387904) (hl : left ≠ 0) (hlb : -1 ≤ left ∧ left ≤ 9223372036854775807) :
    Calls Try.prog 49 #[fsV room (.slice fa fn fc) (.slice da dn dc) (.slice sa sn sc) (.slice ca cn cc) steps left pv] w fun e w' =>
      ∃ pv', e = .returned (.tuple #[fsV room (.slice fa fn fc) (.slice da dn dc) (.slice sa sn sc) (.slice ca cn cc) (steps + 1) (leftR left) pv', .int .i64 (howR p), .int .i64 (codeR (howR p))]) ∧ RPlan w pv' p.tail ∧ (∀ j, Live pv' j → Live pv j) ∧ Below w.heap.size w w' := by
  unfold fsV
  have hst : wrap64 (steps + 1) = steps + 1 := by unfold wrap64; omega
  have hlt : wrap64 (left - 1) = left - 1 := by unfold wrap64; omega
  rcases p with _ | ⟨k, p⟩
  · obtain ⟨pa, pc, rfl⟩ := hp.slice
    have HP := Lib.hid hp
    clear hp
    have HLR1 : Hid (0 < left → leftR left = left - 1) := fun h => if_pos h
    have HLR2 : Hid (¬ 0 < left → leftR left = left) := fun h => if_neg h
    go_enter Try.func49, Try.ntmps49
    by_cases hpos : 0 < left
    · go_wp2_with fail
      refine bodyPost_ret (v := .tuple #[.agg #[.int .i64 room, .slice fa fn fc, .slice da dn dc, .slice sa sn sc, .slice ca cn cc, .int .i64 (steps + 1), .int .i64 (left - 1), .slice pa 0 pc], .int .i64 0, .int .i64 0]) (by simp [results, Try.results49, go_sem]) rfl ⟨.slice pa 0 pc, by rw [HLR1.out hpos]; rfl, HP.out, fun _ h => h, ?_⟩
      exact ((Below.refl _ _).alloc (Nat.le_refl _) _).alloc (by simp) _
    · go_wp2_with fail
      refine bodyPost_ret (v := .tuple #[.agg #[.int .i64 room, .slice fa fn fc, .slice da dn dc, .slice sa sn sc, .slice ca cn cc, .int .i64 (steps + 1), .int .i64 left, .slice pa 0 pc], .int .i64 0, .int .i64 0]) (by simp [results, Try.results49, go_sem]) rfl ⟨.slice pa 0 pc, by rw [HLR2.out hpos]; rfl, HP.out, fun _ h => h, ?_⟩
      exact ((Below.refl _ _).alloc (Nat.le_refl _) _).alloc (by simp) _
  · rcases hp with ⟨_, h⟩ | ⟨_, _, h⟩ | ⟨pb, po, cap, rfl, hcap, hpb, hr⟩
    · cases h
    · cases h
    have c : w.cell? ⟨pb, po, none⟩ = some (.int .i64 k) := hr 0 (.int .i64 k) rfl
    have cA : ∀ A B, ((w.alloc A).alloc B).cell? ⟨pb, po, none⟩ = some (.int .i64 k) := fun A B => by rw [World.cell?_of_block (w := w) ((((Below.refl _ _).alloc (Nat.le_refl _) A).alloc (by simp) B).block pb hpb)]; exact c
    have cB : ∀ A B, ((w.alloc A).alloc B).cell? ⟨pb, po + 0, none⟩ = some (.int .i64 k) := cA
    clear c
    have HLR1 : Hid (0 < left → leftR left = left - 1) := fun h => if_pos h
    have HLR2 : Hid (¬ 0 < left → leftR left = left) := fun h => if_neg h
    have HK3 : Hid (¬ k = 0 → ¬ k = 2 → codeR k = 20) := fun h1 h2 => by show codeR k = 20; unfold codeR; rw [if_neg h1, if_neg h2]
    have hcap' : p.length + 1 ≤ cap := by simpa using hcap
    simp only [List.length_cons] at hpl
    by_cases h1 : cap = 1
    · obtain rfl : p = [] := List.length_eq_zero_iff.1 (by omega)
      subst h1
      have HT := Lib.hid (RPlan.tail (po' := po) (cap' := 0) hcap hpb hr (.inl ⟨rfl, rfl, rfl⟩))
      have HLV : Hid (∀ j, Live (.slice (some ⟨pb, po, none⟩) 0 0) j → Live (.slice (some ⟨pb, po, none⟩) 1 1) j) := fun j h => absurd rfl (h.2 _)
      clear hcap hpb hr hcap'
      go_enter Try.func49, Try.ntmps49
      by_cases hpos : 0 < left
      · by_cases k0 : k = 0
        · subst k0
          go_wp2_with fail
          refine bodyPost_ret (v := .tuple #[.agg #[.int .i64 room, .slice fa fn fc, .slice da dn dc, .slice sa sn sc, .slice ca cn cc, .int .i64 (steps + 1), .int .i64 (left - 1), (.slice (some ⟨pb, po, none⟩) 0 0)], .int .i64 0, .int .i64 0]) (by simp [results, Try.results49, go_sem]) rfl ⟨(.slice (some ⟨pb, po, none⟩) 0 0), by rw [HLR1.out hpos]; rfl, HT.out, HLV.out, ?_⟩
          exact ((Below.refl _ _).alloc (Nat.le_refl _) _).alloc (by simp) _
        by_cases k2 : k = 2
        · subst k2
          go_wp2_with fail
          refine bodyPost_ret (v := .tuple #[.agg #[.int .i64 room, .slice fa fn fc, .slice da dn dc, .slice sa sn sc, .slice ca cn cc, .int .i64 (steps + 1), .int .i64 (left - 1), (.slice (some ⟨pb, po, none⟩) 0 0)], .int .i64 2, .int .i64 21]) (by simp [results, Try.results49, go_sem]) rfl ⟨(.slice (some ⟨pb, po, none⟩) 0 0), by rw [HLR1.out hpos]; rfl, HT.out, HLV.out, ?_⟩
          exact ((Below.refl _ _).alloc (Nat.le_refl _) _).alloc (by simp) _
        · go_wp2_with fail
          refine bodyPost_ret (v := .tuple #[.agg #[.int .i64 room, .slice fa fn fc, .slice da dn dc, .slice sa sn sc, .slice ca cn cc, .int .i64 (steps + 1), .int .i64 (left - 1), (.slice (some ⟨pb, po, none⟩) 0 0)], .int .i64 k, .int .i64 20]) (by simp [results, Try.results49, go_sem]) rfl ⟨(.slice (some ⟨pb, po, none⟩) 0 0), by rw [HLR1.out hpos, (show ∀ q, howR (k :: q) = k from fun _ => rfl), HK3.out k0 k2], HT.out, HLV.out, ?_⟩
          exact ((Below.refl _ _).alloc (Nat.le_refl _) _).alloc (by simp) _
      · by_cases k0 : k = 0
        · subst k0
          go_wp2_with fail
          refine bodyPost_ret (v := .tuple #[.agg #[.int .i64 room, .slice fa fn fc, .slice da dn dc, .slice sa sn sc, .slice ca cn cc, .int .i64 (steps + 1), .int .i64 left, (.slice (some ⟨pb, po, none⟩) 0 0)], .int .i64 0, .int .i64 0]) (by simp [results, Try.results49, go_sem]) rfl ⟨(.slice (some ⟨pb, po, none⟩) 0 0), by rw [HLR2.out hpos]; rfl, HT.out, HLV.out, ?_⟩
          exact ((Below.refl _ _).alloc (Nat.le_refl _) _).alloc (by simp) _
        by_cases k2 : k = 2
        · subst k2
          go_wp2_with fail
          refine bodyPost_ret (v := .tuple #[.agg #[.int .i64 room, .slice fa fn fc, .slice da dn dc, .slice sa sn sc, .slice ca cn cc, .int .i64 (steps + 1), .int .i64 left, (.slice (some ⟨pb, po, none⟩) 0 0)], .int .i64 2, .int .i64 21]) (by simp [results, Try.results49, go_sem]) rfl ⟨(.slice (some ⟨pb, po, none⟩) 0 0), by rw [HLR2.out hpos]; rfl, HT.out, HLV.out, ?_⟩
          exact ((Below.refl _ _).alloc (Nat.le_refl _) _).alloc (by simp) _
        · go_wp2_with fail
          refine bodyPost_ret (v := .tuple #[.agg #[.int .i64 room, .slice fa fn fc, .slice da dn dc, .slice sa sn sc, .slice ca cn cc, .int .i64 (steps + 1), .int .i64 left, (.slice (some ⟨pb, po, none⟩) 0 0)], .int .i64 k, .int .i64 20]) (by simp [results, Try.results49, go_sem]) rfl ⟨(.slice (some ⟨pb, po, none⟩) 0 0), by rw [HLR2.out hpos, (show ∀ q, howR (k :: q) = k from fun _ => rfl), HK3.out k0 k2], HT.out, HLV.out, ?_⟩
          exact ((Below.refl _ _).alloc (Nat.le_refl _) _).alloc (by simp) _
    · have HT := Lib.hid (RPlan.tail (po' := po + 1) (cap' := cap - 1) hcap hpb hr (.inr ⟨rfl, rfl⟩))
      have HLV : Hid (∀ j, Live (.slice (some ⟨pb, po + 1, none⟩) p.length (cap - 1)) j → Live (.slice (some ⟨pb, po, none⟩) (k :: p).length cap) j) := fun j h => ⟨h.1, fun a e => by injection e with _ e _; cases e⟩
      clear hcap hpb hr
      go_enter Try.func49, Try.ntmps49
      by_cases hpos : 0 < left
      · by_cases k0 : k = 0
        · subst k0
          go_wp2_with fail
          refine bodyPost_ret (v := .tuple #[.agg #[.int .i64 room, .slice fa fn fc, .slice da dn dc, .slice sa sn sc, .slice ca cn cc, .int .i64 (steps + 1), .int .i64 (left - 1), (.slice (some ⟨pb, po + 1, none⟩) p.length (cap - 1))], .int .i64 0, .int .i64 0]) (by simp [results, Try.results49, go_sem]) rfl ⟨(.slice (some ⟨pb, po + 1, none⟩) p.length (cap - 1)), by rw [HLR1.out hpos]; rfl, HT.out, HLV.out, ?_⟩
          exact ((Below.refl _ _).alloc (Nat.le_refl _) _).alloc (by simp) _
        by_cases k2 : k = 2
        · subst k2
          go_wp2_with fail
          refine bodyPost_ret (v := .tuple #[.agg #[.int .i64 room, .slice fa fn fc, .slice da dn dc, .slice sa sn sc, .slice ca cn cc, .int .i64 (steps + 1), .int .i64 (left - 1), (.slice (some ⟨pb, po + 1, none⟩) p.length (cap - 1))], .int .i64 2, .int .i64 21]) (by simp [results, Try.results49, go_sem]) rfl ⟨(.slice (some ⟨pb, po + 1, none⟩) p.length (cap - 1)), by rw [HLR1.out hpos]; rfl, HT.out, HLV.out, ?_⟩
          exact ((Below.refl _ _).alloc (Nat.le_refl _) _).alloc (by simp) _
        · go_wp2_with fail
          refine bodyPost_ret (v := .tuple #[.agg #[.int .i64 room, .slice fa fn fc, .slice da dn dc, .slice sa sn sc, .slice ca cn cc, .int .i64 (steps + 1), .int .i64 (left - 1), (.slice (some ⟨pb, po + 1, none⟩) p.length (cap - 1))], .int .i64 k, .int .i64 20]) (by simp [results, Try.results49, go_sem]) rfl ⟨(.slice (some ⟨pb, po + 1, none⟩) p.length (cap - 1)), by rw [HLR1.out hpos, (show ∀ q, howR (k :: q) = k from fun _ => rfl), HK3.out k0 k2], HT.out, HLV.out, ?_⟩
          exact ((Below.refl _ _).alloc (Nat.le_refl _) _).alloc (by simp) _
      · by_cases k0 : k = 0
        · subst k0
          go_wp2_with fail
          refine bodyPost_ret (v := .tuple #[.agg #[.int .i64 room, .slice fa fn fc, .slice da dn dc, .slice sa sn sc, .slice ca cn cc, .int .i64 (steps + 1), .int .i64 left, (.slice (some ⟨pb, po + 1, none⟩) p.length (cap - 1))], .int .i64 0, .int .i64 0]) (by simp [results, Try.results49, go_sem]) rfl ⟨(.slice (some ⟨pb, po + 1, none⟩) p.length (cap - 1)), by rw [HLR2.out hpos]; rfl, HT.out, HLV.out, ?_⟩
          exact ((Below.refl _ _).alloc (Nat.le_refl _) _).alloc (by simp) _
        by_cases k2 : k = 2
        · subst k2
          go_wp2_with fail
          refine bodyPost_ret (v := .tuple #[.agg #[.int .i64 room, .slice fa fn fc, .slice da dn dc, .slice sa sn sc, .slice ca cn cc, .int .i64 (steps + 1), .int .i64 left, (.slice (some ⟨pb, po + 1, none⟩) p.length (cap - 1))], .int .i64 2, .int .i64 21]) (by simp [results, Try.results49, go_sem]) rfl ⟨(.slice (some ⟨pb, po + 1, none⟩) p.length (cap - 1)), by rw [HLR2.out hpos]; rfl, HT.out, HLV.out, ?_⟩
          exact ((Below.refl _ _).alloc (Nat.le_refl _) _).alloc (by simp) _
        · go_wp2_with fail
          refine bodyPost_ret (v := .tuple #[.agg #[.int .i64 room, .slice fa fn fc, .slice da dn dc, .slice sa sn sc, .slice ca cn cc, .int .i64 (steps + 1), .int .i64 left, (.slice (some ⟨pb, po + 1, none⟩) p.length (cap - 1))], .int .i64 k, .int .i64 20]) (by simp [results, Try.results49, go_sem]) rfl ⟨(.slice (some ⟨pb, po + 1, none⟩) p.length (cap - 1)), by rw [HLR2.out hpos, (show ∀ q, howR (k :: q) = k from fun _ => rfl), HK3.out k0 k2], HT.out, HLV.out, ?_⟩
          exact ((Below.refl _ _).alloc (Nat.le_refl _) _).alloc (by simp) _
end Go.Proofs.Ytpfbiijcmmkjlaa
