/- Names in order: what 'with' makes of them; how a directory that is a map tells the same as names in order. Plain; nothing is walked. -/
import Derived.Test.YtpfbiijcmmkjlaaFsRh
import Derived.Sort.Walk0
namespace Go.Proofs.Ytpfbiijcmmkjlaa
open Go.RowKit Go.Maps Go.WideMaps

/-- The bytes of a name. -/
abbrev nmL (x : RN) : List UInt8 := x.1.data.toList
/-- Names rise. -/
def Rising (l : List RN) : Prop := l.Pairwise fun a b => nmL a < nmL b
theorem less_iff (a b : ByteArray) : Op.bytesLess a.toList b.toList = true ↔ a.data.toList < b.data.toList := by
  rw [ByteArray.toList_eq, ByteArray.toList_eq, bytesLess_eq]; simp
theorem data_inj {a b : ByteArray} (h : a.data.toList = b.data.toList) : a = b := ByteArray.ext (Array.toList_inj.1 h)
theorem withGo_mem (n : RN) : ∀ (l : List RN) (d : Bool) (y : RN), y ∈ withGo n l d → y ∈ l ∨ (y = n ∧ d = false)
  | [], d, y, h => by
    unfold withGo at h
    cases d
    · simp at h; exact .inr ⟨h, rfl⟩
    · simp at h
  | x :: l, d, y, h => by
    unfold withGo at h
    split at h
    · exact (withGo_mem n l d y h).imp (List.mem_cons_of_mem _) id
    · split at h
      · rename_i hd
        rcases List.mem_cons.1 h with rfl | h
        · exact .inr ⟨rfl, hd.1⟩
        · rcases List.mem_cons.1 h with rfl | h
          · exact .inl List.mem_cons_self
          · rcases withGo_mem n l true y h with h | h
            · exact .inl (List.mem_cons_of_mem _ h)
            · cases h.2
      · rcases List.mem_cons.1 h with rfl | h
        · exact .inl List.mem_cons_self
        · exact (withGo_mem n l d y h).imp (List.mem_cons_of_mem _) id
theorem withGo_rise (n : RN) : ∀ (l : List RN) (d : Bool), Rising l → Rising (withGo n l d)
  | [], d, _ => by unfold withGo; cases d <;> simp [Rising]
  | x :: l, d, h => by
    obtain ⟨h1, h2⟩ := List.pairwise_cons.1 h
    unfold withGo
    split
    · exact withGo_rise n l d h2
    · rename_i hne
      split
      · rename_i hd
        have hlt := (less_iff _ _).1 hd.2
        refine List.pairwise_cons.2 ⟨fun y hy => ?_, List.pairwise_cons.2 ⟨fun y hy => ?_, withGo_rise n l true h2⟩⟩
        · rcases List.mem_cons.1 hy with rfl | hy
          · exact hlt
          · rcases withGo_mem n l true y hy with hy | hy
            · exact List.lt_trans hlt (h1 y hy)
            · cases hy.2
        · rcases withGo_mem n l true y hy with hy | hy
          · exact h1 y hy
          · cases hy.2
      · rename_i hd
        refine List.pairwise_cons.2 ⟨fun y hy => ?_, withGo_rise n l d h2⟩
        rcases withGo_mem n l d y hy with hy | ⟨rfl, hdf⟩
        · exact h1 y hy
        · have hnl : ¬ nmL y < nmL x := fun e => hd ⟨hdf, (less_iff _ _).2 e⟩
          have hle : nmL x ≤ nmL y := hnl
          rcases List.le_iff_lt_or_eq.1 hle with h | h
          · exact h
          · exact absurd (data_inj h) hne
theorem withGo_other (n : RN) {s : ByteArray} (hs : s ≠ n.1) : ∀ (l : List RN) (d : Bool), findR (withGo n l d) s = findR l s
  | [], d => by
    unfold withGo
    cases d
    · show (if n.1 = s then n.2 else -1) = -1
      rw [if_neg (fun e => hs e.symm)]
    · rfl
  | x :: l, d => by
    have h0 : findR (x :: l) s = if x.1 = s then x.2 else findR l s := rfl
    unfold withGo
    split
    · rename_i he
      rw [withGo_other n hs l d, h0, if_neg (fun e => hs (by rw [← e, he]))]
    · split
      · show (if n.1 = s then n.2 else if x.1 = s then x.2 else findR (withGo n l true) s) = _
        rw [if_neg (fun e => hs e.symm), withGo_other n hs l true, h0]
      · show (if x.1 = s then x.2 else findR (withGo n l d) s) = _
        rw [withGo_other n hs l d, h0]
theorem withGo_same (n : RN) : ∀ (l : List RN) (d : Bool), findR (withGo n l d) n.1 = if d = true then -1 else n.2
  | [], d => by
    unfold withGo
    cases d
    · show (if n.1 = n.1 then n.2 else -1) = _
      rw [if_pos rfl]; rfl
    · rfl
  | x :: l, d => by
    unfold withGo
    split
    · exact withGo_same n l d
    · rename_i hne
      split
      · rename_i hd
        show (if n.1 = n.1 then n.2 else _) = _
        rw [if_pos rfl, hd.1]; rfl
      · show (if x.1 = n.1 then x.2 else findR (withGo n l d) n.1) = _
        rw [if_neg hne, withGo_same n l d]
theorem findR_none {s : ByteArray} : ∀ (l : List RN), (∀ x ∈ l, x.1 ≠ s) → findR l s = -1
  | [], _ => rfl
  | x :: l, h => by
    show (if x.1 = s then x.2 else findR l s) = _
    rw [if_neg (h x List.mem_cons_self), findR_none l fun y hy => h y (List.mem_cons_of_mem _ hy)]
theorem findR_mem {x : RN} : ∀ (l : List RN), Rising l → x ∈ l → findR l x.1 = x.2
  | [], _, h => by cases h
  | y :: l, hr, h => by
    obtain ⟨h1, h2⟩ := List.pairwise_cons.1 hr
    show (if y.1 = x.1 then y.2 else findR l x.1) = _
    rcases List.mem_cons.1 h with rfl | h
    · rw [if_pos rfl]
    · rw [if_neg (fun e => by have := h1 x h; unfold nmL at this; rw [e] at this; exact absurd this (List.lt_irrefl _)), findR_mem l h2 h]
theorem findR_some {s : ByteArray} : ∀ (l : List RN), (∃ x ∈ l, x.1 = s ∧ findR l s = x.2) ∨ ((∀ x ∈ l, x.1 ≠ s) ∧ findR l s = -1)
  | [] => .inr ⟨fun _ h => (by cases h), rfl⟩
  | y :: l => by
    by_cases e : y.1 = s
    · exact .inl ⟨y, List.mem_cons_self, e, if_pos e⟩
    · have h0 : findR (y :: l) s = findR l s := if_neg e
      rcases findR_some (s := s) l with ⟨x, h1, h2, h3⟩ | ⟨h1, h2⟩
      · exact .inl ⟨x, List.mem_cons_of_mem _ h1, h2, h0.trans h3⟩
      · refine .inr ⟨fun x hx => ?_, h0.trans h2⟩
        rcases List.mem_cons.1 hx with rfl | hx
        · exact e
        · exact h1 x hx
theorem rise_nodup {l : List RN} (h : Rising l) : (l.map nmL).Nodup := by
  refine List.pairwise_map.2 (List.Pairwise.imp (fun {a b} hab e => ?_) h)
  rw [e] at hab; exact List.lt_irrefl _ hab

/-- The map D tells the same as the names l; numbers below N. -/
structure Rep (fl : Nat → Option Fil) (N : Nat) (D : DataW Unit) (l : List RN) : Prop where
  rise : Rising l
  num : ∀ x ∈ l, 0 ≤ x.2 ∧ x.2 < N
  look : ∀ s, (dget D s = none ∧ findR l s = -1) ∨ ∃ b f, dget D s = some b ∧ fl b = some f ∧ findR l s = f.num
section
variable {fl fl' : Nat → Option Fil} {N N' : Nat} {D : DataW Unit} {l : List RN}
theorem Rep.put (h : Rep fl N D l) (hD : Maps.IsMap D) {s : ByteArray} {b : Nat} {f : Fil} (hb : fl b = some f) (hn : 0 ≤ f.num ∧ f.num < N) : Rep fl N (D.put (keyL s) (.lit (.int .i64 (b : Nat)))) (withR l (s, f.num)) := by
  have hd : decide ((s, f.num).2 < 0) = false := decide_eq_false (by show ¬ f.num < 0; omega)
  refine ⟨withGo_rise _ l _ h.rise, fun x hx => ?_, fun t => ?_⟩
  · rcases withGo_mem _ l _ x hx with hx | ⟨rfl, _⟩
    · exact h.num x hx
    · exact hn
  · by_cases e : t = s
    · subst e
      refine .inr ⟨b, f, dget_put_same hD _ _, hb, ?_⟩
      unfold withR
      rw [withGo_same (t, f.num) l, hd]; rfl
    · rw [dget_put_other e]
      unfold withR
      rw [withGo_other (s, f.num) e]
      exact h.look t
theorem Rep.del (h : Rep fl N D l) (s : ByteArray) : Rep fl N (D.del (keyL s)) (withR l (s, -1)) := by
  have hd : decide (((s, -1) : RN).2 < 0) = true := rfl
  refine ⟨withGo_rise _ l _ h.rise, fun x hx => ?_, fun t => ?_⟩
  · rcases withGo_mem _ l _ x hx with hx | ⟨_, h0⟩
    · exact h.num x hx
    · rw [hd] at h0; cases h0
  · by_cases e : t = s
    · subst e
      refine .inl ⟨dget_del_same _, ?_⟩
      unfold withR
      rw [withGo_same (t, -1) l, hd]; rfl
    · rw [dget_del_other e]
      unfold withR
      rw [withGo_other (s, -1) e]
      exact h.look t
theorem Rep.mono (h : Rep fl N D l) (hf : ∀ b f, fl b = some f → ∃ f', fl' b = some f' ∧ f'.num = f.num) (hN : N ≤ N') : Rep fl' N' D l :=
  ⟨h.rise, fun x hx => ⟨(h.num x hx).1, by have := (h.num x hx).2; omega⟩, fun s => (h.look s).imp id fun ⟨b, f, h1, h2, h3⟩ => by
    obtain ⟨f', g1, g2⟩ := hf b f h2
    exact ⟨b, f', h1, g1, by rw [g2]; exact h3⟩⟩
/-- A name that is there. -/
theorem Rep.mem (h : Rep fl N D l) (hfl : ∀ b f, fl b = some f → 0 ≤ f.num) (s : ByteArray) : (∃ b, dget D s = some b) ↔ ∃ x ∈ l, x.1 = s := by
  rcases h.look s with ⟨h1, h2⟩ | ⟨b, f, h1, h2, h3⟩
  · rw [h1]
    refine ⟨fun ⟨b, hb⟩ => (by cases hb), fun ⟨x, hx, e⟩ => ?_⟩
    have h4 := findR_mem l h.rise hx
    rw [e, h2] at h4
    have := (h.num x hx).1; omega
  · rw [h1]
    refine ⟨fun _ => ?_, fun _ => ⟨b, rfl⟩⟩
    rcases findR_some (s := s) l with ⟨x, g1, g2, _⟩ | ⟨_, g2⟩
    · exact ⟨x, g1, g2⟩
    · have := hfl b f h2; omega
theorem Rep.names (h : Rep fl N D l) (hfl : ∀ b f, fl b = some f → 0 ≤ f.num) (hT : Maps.Tidy D) (hO : OkD fl D) : namesD D = l.map nmL := by
  have hp : (strKeys D).Perm (l.map nmL) := by
    have hp0 : (namesD D).Perm (l.map nmL) := by
      refine (List.perm_ext_iff_of_nodup (names_nodup hT hO) (rise_nodup h.rise)).2 fun s => ?_
      rw [List.mem_map]
      constructor
      · intro hs
        obtain ⟨b, f, h1, h2, _⟩ := name_file hO hs
        obtain ⟨x, g1, g2⟩ := (h.mem hfl _).1 ⟨b, h1⟩
        exact ⟨x, g1, by unfold nmL; rw [g2]⟩
      · rintro ⟨x, hx, rfl⟩
        obtain ⟨b, hb⟩ := (h.mem hfl x.1).2 ⟨x, hx, rfl⟩
        refine mem_names hT.isMap (b := b) ?_
        rw [bytes_back]; exact hb
    exact (List.mergeSort_perm _ _).symm.trans hp0
  unfold namesD
  rw [mergeSort_of_perm hp]
  refine List.mergeSort_of_pairwise (List.pairwise_map.2 (List.Pairwise.imp (fun {a b} hab => ?_) h.rise))
  simp only [leB, decide_eq_true_eq]
  exact List.le_of_lt hab
theorem Rep.length (h : Rep fl N D l) (hfl : ∀ b f, fl b = some f → 0 ≤ f.num) (hT : Maps.Tidy D) (hO : OkD fl D) : l.length = Maps.size D := by
  have h1 := h.names hfl hT hO
  have h2 := names_size hT.isMap
  rw [h1, List.length_map] at h2
  exact h2
end
end Go.Proofs.Ytpfbiijcmmkjlaa
