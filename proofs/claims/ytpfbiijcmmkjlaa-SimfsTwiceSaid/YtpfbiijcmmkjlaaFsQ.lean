/- Package simfs: what a crash leaves of a file. -/
import Derived.Test.YtpfbiijcmmkjlaaFsP
namespace Go.Proofs.Ytpfbiijcmmkjlaa
open Go.RowKit Go.Maps Go.WideMaps

theorem quiet_left {P : Program} {f : FuncId} {args : Array Value} {w : World} {n : Nat} {v : Value}
    (h : Calls P f args (w.drewN n) fun e w' => e = .returned v ∧ w.drewN n = w') : Calls P f args (w.drewN n) fun e w'' => e = .returned v ∧ ∃ m, w'' = w.drewN m :=
  h.mono fun _ _ ⟨he, hm⟩ => ⟨he, n, hm.symm⟩
theorem own_base {w : World} {base e size : Nat} {v : Value} {n : Nat} {xs : List Value} (h : w.ownsRow base e size v n xs) : w.ownsRow 0 e size v n xs := by
  refine ⟨h.1, ?_⟩
  rcases h.2 with hq | ⟨y, cap', cur', h1, h2, h3⟩
  · exact .inl hq
  · exact .inr ⟨y, cap', cur', h1, Nat.zero_le _, h3⟩
/-- The value v is a slice of these numbers, wherever. -/
def Ints (w : World) (v : Value) (p : List Int) : Prop :=
  (v = .slice none 0 0 ∧ p = []) ∨ ∃ pb po cap, v = .slice (some ⟨pb, po, none⟩) p.length cap ∧ pb < w.heap.size ∧ w.rangeAt pb po (p.map (Value.int .i64))
theorem Ints.slice {w : World} {v : Value} {p : List Int} (h : Ints w v p) : ∃ a c, v = .slice a p.length c := by
  rcases h with ⟨rfl, rfl⟩ | ⟨pb, po, cap, rfl, _⟩
  · exact ⟨_, _, rfl⟩
  · exact ⟨_, _, rfl⟩
theorem Ints.below {w w' : World} {v : Value} {p : List Int} (h : Ints w v p) (hb : Below w.heap.size w w') : Ints w' v p := by
  rcases h with h | ⟨pb, po, cap, rfl, h3, h4⟩
  · exact Or.inl h
  · exact Or.inr ⟨pb, po, cap, rfl, Nat.lt_of_lt_of_le h3 hb.size, fun j u hu => by rw [World.cell?_of_block (w := w) (hb.block pb h3)]; exact h4 j u hu⟩
set_option maxRecDepth 100000 in
set_option maxHeartbeats 1000000 in
theorem at_any (v : Value) (p : List Int) (i : Nat) (w : World) (h : Ints w v p) (_hi : i < 4611686018427387904) (hpl : p.length < 4611686018427387904) :
    Calls Try.prog 37 #[v, .int .i64 i] w fun e w' => e = .returned (.int .i64 (p.getD i 0)) ∧ w = w' := by
  obtain ⟨va, vc, rfl⟩ := h.slice
  by_cases hlt : i < p.length
  · rcases h with ⟨_, rfl⟩ | ⟨pb, po, cap, hv, _, hr⟩
    · simp at hlt
    · cases hv
      have c := hr i (.int .i64 (p.getD i 0)) (by rw [List.getElem?_map, List.getD_eq_getElem?_getD, List.getElem?_eq_getElem hlt]; rfl)
      have hlt' : (i : Int) < p.length := by omega
      generalize p.getD i 0 = x at *
      clear _hi hpl hr
      go_enter Try.func37, Try.ntmps37
      go_wp2_with fail
      go_ret
      exact ⟨rfl, rfl⟩
  · have hge : (p.length : Int) ≤ i := by omega
    have hx : p.getD i 0 = 0 := by rw [List.getD_eq_getElem?_getD, List.getElem?_eq_none (by omega)]; rfl
    rw [hx]
    clear _hi hpl h hx hlt
    go_enter Try.func37, Try.ntmps37
    go_wp2_with fail
    go_ret
    exact ⟨rfl, rfl⟩
/-- How many bytes are left of a file. -/
def leftN (f : Fil) (tail : Int) : Nat := f.sure + (withinOf tail ((f.data.length : Int) - f.sure)).toNat
theorem leftN_le (f : Fil) (tail : Int) (h : f.sure ≤ f.data.length) : leftN f tail ≤ f.data.length := by unfold leftN withinOf; omega
def crashedF (f : Fil) (tail num : Int) : Fil := ⟨num, f.data.take (leftN f tail), leftN f tail⟩

set_option maxRecDepth 100000 in
set_option maxHeartbeats 4000000 in
theorem crashed_any (b : Nat) (d : Value) (f : Fil) (tail num : Int) (w : World) (h : FileAt w b d f) (hl : f.data.length ≤ 65536) (hs : f.sure ≤ f.data.length) :
    Calls Try.prog 36 #[.pointer (some ⟨b, 0, none⟩), .int .i64 tail, .int .i64 num] w fun e w' => ∃ nb d', e = .returned (.pointer (some ⟨nb, 0, none⟩)) ∧ w.heap.size ≤ nb ∧ FileAt w' nb d' (crashedF f tail num) ∧
      (∀ k, d'.ownBlock = some k → w.heap.size ≤ k) ∧ Below w.heap.size w w' := by
  obtain ⟨da, dc, rfl⟩ := own_slice h.2
  have c1 := h.1.cell (i := 1) rfl
  have c2 := h.1.cell (i := 2) rfl
  obtain ⟨n, hn⟩ : ∃ n, n = leftN f tail := ⟨_, rfl⟩
  have hnl : n ≤ f.data.length := by rw [hn]; exact leftN_le f tail hs
  have hns : (f.sure : Int) + withinOf tail ((f.data.length : Int) - f.sure) = n := by rw [hn]; unfold leftN withinOf; omega
  have hsub : IntKind.i64.wrap ((f.data.length : Int) - f.sure) = f.data.length - f.sure := IntWalk.i64_in _ (by omega)
  have hadd : IntKind.i64.wrap ((f.sure : Int) + withinOf tail ((f.data.length : Int) - f.sure)) = n := by rw [hns]; exact IntWalk.i64_in _ (by omega)
  have hwi := fun W => within_any tail ((f.data.length : Int) - f.sure) W
  generalize withinOf tail ((f.data.length : Int) - f.sure) = wi at *
  have HF := Lib.hid h
  have HN := Lib.hid hn
  have HWI := Lib.hid hwi
  clear h hn hns hwi
  go_enter Try.func36, Try.ntmps36
  go_wp2_with fail
  go_quiet ((go_at_call 34; (with_reducible exact quiet_left (HWI.out _))))
  have hnl' : (n : Int) ≤ f.data.length := by omega
  have HFD : Hid (FileAt (w.drewN nq) b (.slice da f.data.length dc) f) := HF.out
  rcases HF.out.2.2 with ⟨hv, h0⟩ | ⟨x, cap, cur, hv, _, hx, hcap, hmx, hcs, hxs⟩
  · obtain ⟨rfl, rfl⟩ : da = none ∧ dc = 0 := by injection hv with h1 h2 h3; exact ⟨h1, h3⟩
    obtain rfl : n = 0 := by omega
    have HBC := Lib.hid fun W => Try.bytes_Clone_nil 0 0 W
    have HCF : Hid (crashedF f tail num = ⟨num, [], 0⟩) := by show _ = _; unfold crashedF; rw [← HN.out]; rfl
    clear hv hsub hadd
    go_wp2_with fail
    refine (HBC.out _).mono ?_; rintro e w2 ⟨rfl, rfl⟩
    go_wp2_with fail
    go_ret
    refine ⟨w.heap.size, .slice none 0 0, rfl, Nat.le_refl _, ?_, (fun k hk => by cases hk), (Below.drewN (Below.refl _ w) nq).alloc (Nat.le_refl _) _⟩
    rw [HCF.out]
    exact ⟨Blk.new (w.drewN nq) _ _, World.ownsRow_nil _ _ _ _⟩
  · obtain ⟨rfl, rfl⟩ : da = some ⟨x, 0, none⟩ ∧ dc = cap := by injection hv with h1 h2 h3; exact ⟨h1, h3⟩
    have hkc : n ≤ dc := by omega
    have htl : (f.data.take n).length = n := by simp; omega
    have HBC := Lib.hid (Try.bytes_Clone_at ⟨x, 0, none⟩ n dc (f.data.take n) (w.drewN nq) htl (by omega) fun i hi => by
      have e : Addr.add ⟨x, 0, none⟩ i = ⟨x, i, none⟩ := by unfold Addr.add; by_cases h : i = 0 <;> simp [h]
      have hx' : (w.drewN nq).heap[x]? = some (.cells cur 5 (0, 0)) := hx
      rw [e, cell_of_row _ x i cur 5 (0, 0) hx', ← Array.getElem?_toList]
      have hid : i < f.data.length := by omega
      have h1 : (f.data.map (Value.int .u8))[i]? = some (.int .u8 ((f.data.take n).getD i 0)) := by
        rw [List.getElem?_map, List.getD_eq_getElem?_getD, List.getElem?_take_of_lt hi, List.getElem?_eq_getElem hid]; rfl
      rw [← hxs, List.getElem?_take_of_lt (by omega)] at h1
      exact h1)
    have HCF : Hid (crashedF f tail num = ⟨num, f.data.take n, n⟩) := by show _ = _; unfold crashedF; rw [← HN.out]
    have HTL := Lib.hid htl
    clear hv hsub hadd htl hx hxs
    go_wp2_with fail
    refine HBC.out.mono ?_; rintro e w2 ⟨v', rfl, ho, _, hB2⟩
    obtain ⟨va, vc, rfl⟩ := own_slice ho
    have HO := Lib.hid ho
    have HB2 : Hid (Below w.heap.size w w2) := (Below.drewN (Below.refl _ w) nq).trans hB2
    clear ho hB2
    go_wp2_with fail
    go_ret
    refine ⟨w2.heap.size, .slice va n vc, rfl, HB2.out.size, ?_, fun k hk => (HO.out.lt k hk).1, HB2.out.alloc HB2.out.size _⟩
    rw [HCF.out]
    refine ⟨Blk.new w2 _ _, ?_⟩
    have ha := World.ownsRow.alloc HO.out (.cells #[.int .i64 num, .slice va n vc, .int .i64 n] 84)
    show World.ownsRow _ 0 5 1 _ (f.data.take n).length _
    rw [HTL.out]
    exact own_base ha
end Go.Proofs.Ytpfbiijcmmkjlaa
