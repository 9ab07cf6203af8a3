/- Package simfs: the directory that is filled, in memory: what Create, Append, Used and List do with it. -/
import Derived.Test.YtcnklondaihbmaaFsFu
import Derived.Test.YtcnklondaihbmaaFsOb
namespace Go.Proofs.Ytcnklondaihbmaa
open Go.RowKit Go.Maps Go.WideMaps

theorem mod_natM (M n : Int) (hM : 0 < M) (hM2 : M ≤ 4294967296) : ∃ N : Nat, wrap64 ((IntKind.u64.wrap n).tmod M) = N ∧ (N : Int) < M := by
  have h0 : 0 ≤ IntKind.u64.wrap n := by unfold IntKind.wrap; simp [IntKind.signed, IntKind.bits]; omega
  rw [Int.tmod_eq_emod_of_nonneg h0]
  have h1 := Int.emod_nonneg (IntKind.u64.wrap n) (show M ≠ 0 by omega)
  have h2 := Int.emod_lt_of_pos (IntKind.u64.wrap n) hM
  refine ⟨(IntKind.u64.wrap n % M).toNat, ?_, by omega⟩
  have h3 : wrap64 (IntKind.u64.wrap n % M) = IntKind.u64.wrap n % M := by unfold wrap64; omega
  rw [h3]; omega
section
variable {w0 w wM : World} {g : Nat} {A : FsA} {i used n : Nat} {room : Int}
theorem append_fresh (s : ByteArray) (v : Value) (p : List Int) (h : Own w0 w g A) (hB : Below w.heap.size w wM) (hI : Inv A n) (hn : n < 900) (hs : s.size ≤ 1000) (hp : Bytes wM v p) (hpl : p.length ≤ 500000) (hv : ∀ x, v.ownBlock = some x → w.heap.size ≤ x) :
    Calls Try.prog 17 #[.pointer (some ⟨g, 0, none⟩), .string s, v] wM fun e w' => e = .returned (.int .i64 (appendA A s p).2) ∧ Own w0 w' g (appendA A s p).1 := by
  obtain ⟨S, m1, m2, m3⟩ := h
  have h2 := hI.sizeNow
  refine (append_any g S A s v p wM (m1.below hB) (hI.Num (by omega)) hI.po hI.okNow hI.short (by omega) hI.room hs hp hpl (fun x hx hS => by have := hv x hx; have := (m2 x hS).2; omega)).mono fun e w' ⟨he, hF, hK⟩ => ⟨he, ?_⟩
  exact own_next (fun k hk => ⟨(m2 k hk).1, Nat.lt_of_lt_of_le (m2 k hk).2 hB.size⟩) (m3.trans (hB.mono m3.size)) hF hK
/-- Before the i-th round: so many bytes are there. -/
def FuQ (w0 w : World) (g : Nat) (room : Int) (i used : Nat) : Prop := ∃ A n, Own w0 w g A ∧ FullI A i used room n
/-- In the i-th round, behind Create. -/
def FuM (w0 w : World) (g : Nat) (room : Int) (i used : Nat) : Prop := ∃ A n b, Own w0 w g (filledA A i b) ∧ FullI A i used room n ∧ A.file b = none
theorem FuQ.base (h : FuQ w0 w g room i used) : Below w0.heap.size w0 w := by obtain ⟨A, n, h1, _⟩ := h; exact h1.base
theorem FuM.base (h : FuM w0 w g room i used) : Below w0.heap.size w0 w := by obtain ⟨A, n, b, h1, _⟩ := h; exact h1.base
theorem FuQ.below (h : FuQ w0 w g room i used) (hb : Below w.heap.size w wM) : FuQ w0 wM g room i used := by obtain ⟨A, n, h1, h2⟩ := h; exact ⟨A, n, h1.below hb, h2⟩
theorem FuQ.le (h : FuQ w0 w g room i used) : (used : Int) ≤ room := by obtain ⟨A, n, _, h2⟩ := h; exact h2.le
theorem FuQ.new (h : Own w0 w g (newA room)) (h1 : 1 ≤ room) (h2 : room ≤ 1048576) : FuQ w0 w g room 0 0 := ⟨_, _, h, FullI.new room h1 h2⟩
theorem fu_create (h : FuQ w0 w g room i used) (hi : i < 64) :
    Calls Try.prog 16 #[.pointer (some ⟨g, 0, none⟩), .string (nmB i)] w fun e w' => e = .returned (.int .i64 0) ∧ FuM w0 w' g room i used := by
  obtain ⟨A, n, hO, hI⟩ := h
  have hge : ∀ x, w.heap.size ≤ x → A.file x = none := fun x hx => by obtain ⟨S, k1, _, _⟩ := hO; exact k1.ge hx
  refine (create_gen (nmB i) hO hI.inv (by have := hI.n4; omega) (by rw [nmB_size]; omega)).mono fun e w' ⟨b, hb, he, hF⟩ => ?_
  have hn := hge b hb
  obtain ⟨hc, _⟩ := hI.create hi hn
  rw [hc] at he hF
  exact ⟨he, A, n, b, hF, hI, hn⟩
theorem fu_full (h : FuQ w0 w g room i used) (hi : ¬ i < 64) (h70 : i < 70) :
    Calls Try.prog 16 #[.pointer (some ⟨g, 0, none⟩), .string (nmB i)] w fun e w' => e = .returned (.int .i64 8) ∧ FuQ w0 w' g room (i + 1) used := by
  obtain ⟨A, n, hO, hI⟩ := h
  refine (create_gen (nmB i) hO hI.inv (by have := hI.n4; omega) (by rw [nmB_size]; omega)).mono fun e w' ⟨b, _, he, hF⟩ => ?_
  obtain ⟨hc, hI'⟩ := hI.full (b := b) hi h70
  rw [hc] at he hF
  exact ⟨he, A, n, hF, hI'⟩
theorem FuM.skip (h : FuM w0 w g room i used) (hi : i < 64) : FuQ w0 w g room (i + 1) used := by
  obtain ⟨A, n, b, hO, hI, hb⟩ := h
  obtain ⟨_, hI', _⟩ := hI.create hi hb
  exact ⟨_, _, hO, hI'⟩
theorem fu_append (h : FuM w0 w g room i used) (hi : i < 64) (hB : Below w.heap.size w wM) {v : Value} {p : List Int} (hp : Bytes wM v p) (hpl : p.length ≤ 200) (hv : ∀ x, v.ownBlock = some x → w.heap.size ≤ x) (hr : (used : Int) + p.length ≤ room) :
    Calls Try.prog 17 #[.pointer (some ⟨g, 0, none⟩), .string (nmB i), v] wM fun e w' => e = .returned (.int .i64 0) ∧ FuQ w0 w' g room (i + 1) (used + p.length) := by
  obtain ⟨A, n, b, hO, hI, hb⟩ := h
  obtain ⟨_, hI', _⟩ := hI.create hi hb
  obtain ⟨A', hc, hI''⟩ := hI.append hi hb hpl hr
  refine (append_fresh (nmB i) v p hO hB hI'.inv (by have := hI.n4; omega) (by rw [nmB_size]; omega) hp (by omega) hv).mono fun e w' ⟨he, hF⟩ => ?_
  rw [hc] at he hF
  exact ⟨he, A', _, hF, hI''⟩
theorem fu_append_no (h : FuM w0 w g room i used) (hi : i < 64) (hB : Below w.heap.size w wM) {v : Value} {p : List Int} (hp : Bytes wM v p) (hpl : p.length ≤ 200) (hv : ∀ x, v.ownBlock = some x → w.heap.size ≤ x) (hr : room < (used : Int) + p.length) :
    Calls Try.prog 17 #[.pointer (some ⟨g, 0, none⟩), .string (nmB i), v] wM fun e w' => e = .returned (.int .i64 21) ∧ FuQ w0 w' g room (i + 1) used := by
  obtain ⟨A, n, b, hO, hI, hb⟩ := h
  obtain ⟨_, hI', _⟩ := hI.create hi hb
  obtain ⟨A', hc, hI''⟩ := hI.append_no hi hb hpl hr
  refine (append_fresh (nmB i) v p hO hB hI'.inv (by have := hI.n4; omega) (by rw [nmB_size]; omega) hp (by omega) hv).mono fun e w' ⟨he, hF⟩ => ?_
  rw [hc] at he hF
  exact ⟨he, A', _, hF, hI''⟩
theorem fu_zeros (h : FuM w0 w g room i used) (hi : i < 64) (hB : Below w.heap.size w wM) {N z : Nat} {x : Nat} (hp : Bytes wM (.slice (some ⟨x, 0, none⟩) N N) (List.replicate N 0)) (hN : N < 200) (hx : w.heap.size ≤ x) (hz : used + N = z) (hr : (z : Int) ≤ room) :
    Calls Try.prog 17 #[.pointer (some ⟨g, 0, none⟩), .string (nmB i), .slice (some ⟨x, 0, none⟩) N N] wM fun e w' => e = .returned (.int .i64 0) ∧ FuQ w0 w' g room (i + 1) z := by
  have hl : (List.replicate N (0 : Int)).length = N := List.length_replicate
  have := fu_append h hi hB hp (by rw [hl]; omega) (fun y hy => by cases hy; exact hx) (by rw [hl]; omega)
  rw [hl, hz] at this
  exact this
theorem fu_zeros_no (h : FuM w0 w g room i used) (hi : i < 64) (hB : Below w.heap.size w wM) {N z : Nat} {x : Nat} (hp : Bytes wM (.slice (some ⟨x, 0, none⟩) N N) (List.replicate N 0)) (hN : N < 200) (hx : w.heap.size ≤ x) (hz : used + N = z) (hr : room < (z : Int)) :
    Calls Try.prog 17 #[.pointer (some ⟨g, 0, none⟩), .string (nmB i), .slice (some ⟨x, 0, none⟩) N N] wM fun e w' => e = .returned (.int .i64 21) ∧ FuQ w0 w' g room (i + 1) used := by
  have hl : (List.replicate N (0 : Int)).length = N := List.length_replicate
  exact fu_append_no h hi hB hp (by rw [hl]; omega) (fun y hy => by cases hy; exact hx) (by rw [hl]; omega)
theorem fu_facts (u N : Nat) (R : Int) : ∃ z : Nat, u + N = z ∧ ((z : Int) ≤ R ∧ ¬ (R < (u : Int) + N) ∨ R < (z : Int) ∧ R < (u : Int) + N) :=
  ⟨_, rfl, by omega⟩
theorem fu_used (h : FuQ w0 w g room i used) :
    Calls Try.prog 27 #[.pointer (some ⟨g, 0, none⟩)] w fun e w' => e = .returned (.int .i64 used) ∧ FuQ w0 w' g room i used := by
  obtain ⟨A, n, hO, hI⟩ := h
  obtain ⟨S, k1, k2, k3⟩ := hO
  have hsz : Maps.size A.now < 1000 := by rw [hI.size]; omega
  refine (used_any g S A w k1 hI.inv.okNow hI.inv.short hsz).mono fun e w' ⟨he, hb⟩ => ?_
  rw [hI.usedE] at he
  exact ⟨he, A, n, Own.below ⟨S, k1, k2, k3⟩ hb, hI⟩
theorem fu_len (h : FuQ w0 w g room 70 used) :
    Calls Try.prog 25 #[.pointer (some ⟨g, 0, none⟩)] w fun e w' => ∃ la lc, e = .returned (.slice la 64 lc) ∧ Below w0.heap.size w0 w' := by
  obtain ⟨A, n, hO, hI⟩ := h
  have hsz : Maps.size A.now < 1000 := by rw [hI.size]; omega
  exact (len_own hO hsz 64 (by rw [names_size hI.inv.tidyNow.isMap, hI.size]; rfl)).mono fun e w' ⟨la, lc, he, _, hO'⟩ => ⟨la, lc, he, hO'.base⟩
end
theorem strOf_two : ∀ i, i < 70 → (⟨#[102]⟩ : ByteArray) ++ strOfNums [((97 + i % 10 : Nat) : Int), ((97 + i / 10 : Nat) : Int)] = nmB i := by decide +kernel
end Go.Proofs.Ytcnklondaihbmaa
