/- The reference of layer 2 (rubricref02): names in memory; what 'find' answers. -/
import Derived.Test.YtpfbiijcmmkjlaaFsX
import Derived.Test.YtpfbiijcmmkjlaaFsOb
namespace Go.Proofs.Ytpfbiijcmmkjlaa
open Go.RowKit

/-- A name, and its file's number. -/
abbrev RN := ByteArray × Int
/-- The value v is a slice of these names, wherever. -/
def RNames (w : World) (v : Value) (l : List RN) : Prop :=
  (v = .slice none 0 0 ∧ l = []) ∨ ∃ b o cap, v = .slice (some ⟨b, o, none⟩) l.length cap ∧ b < w.heap.size ∧ ∀ (j : Nat) (n : RN), l[j]? = some n → w.cell? ⟨b, o + j * 2, none⟩ = some (.string n.1) ∧ w.cell? ⟨b, o + j * 2 + 1, none⟩ = some (.int .i64 n.2)
theorem RNames.slice {w : World} {v : Value} {l : List RN} (h : RNames w v l) : ∃ a c, v = .slice a l.length c := by
  rcases h with ⟨rfl, rfl⟩ | ⟨b, o, cap, rfl, _⟩
  · exact ⟨_, _, rfl⟩
  · exact ⟨_, _, rfl⟩
theorem RNames.below {w w' : World} {v : Value} {l : List RN} (h : RNames w v l) (hb : Below w.heap.size w w') : RNames w' v l := by
  rcases h with h | ⟨b, o, cap, rfl, h3, h4⟩
  · exact .inl h
  · exact .inr ⟨b, o, cap, rfl, Nat.lt_of_lt_of_le h3 hb.size, fun j n hn => ⟨by rw [World.cell?_of_block (w := w) (hb.block b h3)]; exact (h4 j n hn).1, by rw [World.cell?_of_block (w := w) (hb.block b h3)]; exact (h4 j n hn).2⟩⟩
/-- What 'find' answers. -/
def findR : List RN → ByteArray → Int
  | [], _ => -1
  | n :: l, s => if n.1 = s then n.2 else findR l s
theorem findR_drop (l : List RN) (s : ByteArray) {i : Nat} (hi : i < l.length) : findR (l.drop i) s = if (l[i]).1 = s then (l[i]).2 else findR (l.drop (i + 1)) s := by
  rw [List.drop_eq_getElem_cons hi]; rfl
theorem str_ne' {a b : ByteArray} (h : a ≠ b) : (a.toList == b.toList) = false := by
  rw [beq_eq_false_iff_ne]
  intro e
  rw [ByteArray.toList_eq, ByteArray.toList_eq] at e
  exact h (ByteArray.ext (Array.toList_inj.1 e))
set_option maxRecDepth 100000 in
set_option maxHeartbeats 1000000 in
theorem refFind_any (v : Value) (l : List RN) (s : ByteArray) (w : World) (h : RNames w v l) (hl : l.length < 4611686018427387904) :
    Calls Try.prog 48 #[v, .string s] w fun e w' => e = .returned (.int .i64 (findR l s)) ∧ w = w' := by
  obtain ⟨va, vc, rfl⟩ := h.slice
  have HH := Lib.hid h
  clear h
  go_enter Try.func48, Try.ntmps48
  go_wp2_with fail
  go_loopw [8] (fun s8 wr => ∃ i : Nat, i ≤ l.length ∧ s8 = .int .i64 i ∧ findR (l.drop i) s = findR l s ∧ w = wr)
    (fun s8 _ => l.length - (intOf s8).toNat)
  case atStart => exact ⟨0, Nat.zero_le _, rfl, rfl, rfl⟩
  case round =>
    obtain ⟨i, hi, rfl, hf, rfl⟩ := hrel
    have HF := Lib.hid hf
    clear hf
    by_cases hlt : i < l.length
    · have li : (i : Int) < l.length := by omega
      rcases HH.out with ⟨_, h0⟩ | ⟨b, o, cap, hv, hb, hc⟩
      · subst h0; simp at hlt
      cases hv
      have hd := findR_drop l s hlt
      obtain ⟨c1, c2⟩ := hc i _ (List.getElem?_eq_getElem hlt)
      generalize l[i] = n at c1 c2 hd
      obtain ⟨ns, nf⟩ := n
      simp only at c1 c2 hd
      have HD := Lib.hid hd
      clear hd hb hc
      by_cases he : ns = s
      · have hR : findR l s = nf := by rw [← HF.out, HD.out, if_pos he]
        have HR := Lib.hid hR
        clear hR
        subst he
        go_wp2_with fail
        go_ret
        exact ⟨by rw [HR.out]; rfl, rfl⟩
      · have hR : findR (l.drop (i + 1)) s = findR l s := by rw [← HF.out, HD.out, if_neg he]
        have HR := Lib.hid hR
        have he' : (ns.toList == s.toList) = false := str_ne' he
        clear hR
        go_wp2_with fail
        go_roundw
        case rel => exact ⟨i + 1, by omega, by go_num, HR.out, trivial⟩
        case measure => simp [intOf]; omega
    · have li : ¬ ((i : Int) < l.length) := by omega
      have hR : findR l s = -1 := by rw [← HF.out, List.drop_of_length_le (by omega)]; rfl
      have HR := Lib.hid hR
      clear hR
      go_wp2_with fail
      go_ret
      exact ⟨by rw [HR.out]; rfl, rfl⟩
end Go.Proofs.Ytpfbiijcmmkjlaa
