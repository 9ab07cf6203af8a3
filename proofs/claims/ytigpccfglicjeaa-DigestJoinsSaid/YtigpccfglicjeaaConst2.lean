/- The two arrays of constants: what 'constants' returns. -/
import Derived.Test.YtigpccfglicjeaaConst
namespace Go.Proofs.Ytigpccfglicjeaa
open Go.RowKit

def primesL (p : Nat) : List Nat := (List.range p).filter fun q => decide (2 ≤ q) && primeB q
theorem primesL_yes (p : Nat) (h : 2 ≤ p) (hp : primeB p = true) : primesL (p + 1) = primesL p ++ [p] := by
  simp [primesL, List.range_succ, List.filter_append, h, hp]
theorem primesL_no (p : Nat) (hp : primeB p = false) : primesL (p + 1) = primesL p := by
  simp [primesL, List.range_succ, List.filter_append, hp]
theorem primesL_mono (p k : Nat) : (primesL p).length ≤ (primesL (p + k)).length := by
  induction k with
  | zero => exact Nat.le_refl _
  | succ k ih =>
    refine Nat.le_trans ih ?_
    rw [← Nat.add_assoc]
    simp [primesL, List.range_succ, List.filter_append]
theorem primesL_two : primesL 2 = [] := by decide +kernel
theorem primesL_311 : (primesL 311).length = 63 := by decide +kernel
theorem primesL_312 : (primesL 312).length = 64 := by decide +kernel
theorem primes_left (p : Nat) (h : (primesL p).length < 64) : p < 312 := by
  by_cases k : p < 312
  · exact k
  · have := primesL_mono 312 (p - 312)
    rw [show 312 + (p - 312) = p by omega, primesL_312] at this; omega
theorem primes_done (p : Nat) (h : ¬ (primesL p).length < 64) (hp : p ≤ 312) : p = 312 := by
  by_cases k : p = 312
  · exact k
  · have := primesL_mono p (311 - p)
    rw [show p + (311 - p) = 311 by omega, primesL_311] at this; omega

def z32 : Value := .int .u32 0
def sqV (p : Nat) : Value := .int .u32 (fracI (sqB p))
def cbV (p : Nat) : Value := .int .u32 (fracI (cbB p))
/-- The two arrays while the primes of L have been found. -/
structure ConsAt (w : World) (L : List Nat) (wr : World) : Prop where
  s : Blk wr w.heap.size 47 (fill 8 z32 ((L.take 8).map sqV))
  r : Blk wr (w.heap.size + 1) 46 (fill 64 z32 (L.map cbV))
  b : Below w.heap.size w wr

theorem ConsAt.start (w : World) : ConsAt w [] ((w.alloc (.cells (fill 8 z32 []).toArray 47)).alloc (.cells (fill 64 z32 []).toArray 46)) where
  s := (Blk.new w _ _).alloc _
  r := by have := Blk.new (w.alloc (.cells (fill 8 z32 []).toArray 47)) 46 (fill 64 z32 []); simpa using this
  b := ((Below.refl _ _).alloc (Nat.le_refl _) _).alloc (by simp) _
/-- A prime is found: its root's bits are laid into both. -/
theorem ConsAt.both {w wr : World} {L : List Nat} (h : ConsAt w L wr) (p : Nat) (h8 : L.length < 8) :
    ConsAt w (L ++ [p]) ((wr.setCell ⟨w.heap.size, L.length, none⟩ (sqV p)).setCell ⟨w.heap.size + 1, L.length, none⟩ (cbV p)) where
  s := by
    have h1 := h.s.set L.length (sqV p)
    have e : (fill 8 z32 ((L.take 8).map sqV)).set L.length (sqV p) = fill 8 z32 (((L ++ [p]).take 8).map sqV) := by
      rw [List.take_of_length_le (by omega), List.take_of_length_le (by simp; omega)]
      have := fill_set (n := 8) (z := z32) (v := sqV p) (vs := L.map sqV) (by simpa using h8)
      simpa using this
    rw [e] at h1
    exact h1.set_other (a := ⟨w.heap.size + 1, _, none⟩) (by simp) _
  r := by
    have h1 := (h.r.set_other (a := ⟨w.heap.size, L.length, none⟩) (by simp) (sqV p)).set L.length (cbV p)
    have := fill_set (n := 64) (z := z32) (v := cbV p) (vs := L.map cbV) (by simp; omega)
    have e : (fill 64 z32 (L.map cbV)).set L.length (cbV p) = fill 64 z32 ((L ++ [p]).map cbV) := by simpa using this
    rw [e] at h1; exact h1
  b := (h.b.setCell (by simp) _).setCell (by simp) _
theorem ConsAt.one {w wr : World} {L : List Nat} (h : ConsAt w L wr) (p : Nat) (h8 : ¬ L.length < 8) (h64 : L.length < 64) :
    ConsAt w (L ++ [p]) (wr.setCell ⟨w.heap.size + 1, L.length, none⟩ (cbV p)) where
  s := by
    rw [show (L ++ [p]).take 8 = L.take 8 by rw [List.take_append_of_le_length (by omega)]]
    exact h.s.set_other (a := ⟨w.heap.size + 1, _, none⟩) (by simp) _
  r := by
    have h1 := h.r.set L.length (cbV p)
    have := fill_set (n := 64) (z := z32) (v := cbV p) (vs := L.map cbV) (by simpa using h64)
    have e : (fill 64 z32 (L.map cbV)).set L.length (cbV p) = fill 64 z32 ((L ++ [p]).map cbV) := by simpa using this
    rw [e] at h1; exact h1
  b := h.b.setCell (by simp) _
theorem ConsAt.scell {w wr : World} {L : List Nat} (h : ConsAt w L wr) (h8 : L.length < 8) : wr.cell? ⟨w.heap.size, L.length, none⟩ = some (.int .u32 0) := by
  refine h.s.cell ?_
  rw [List.take_of_length_le (by omega)]
  have := fill_next (n := 8) (z := z32) (vs := L.map sqV) (by simpa using h8)
  rw [List.length_map] at this; exact this
theorem ConsAt.rcell {w wr : World} {L : List Nat} (h : ConsAt w L wr) (h64 : L.length < 64) : wr.cell? ⟨w.heap.size + 1, L.length, none⟩ = some (.int .u32 0) := by
  refine h.r.cell ?_
  have := fill_next (n := 64) (z := z32) (vs := L.map cbV) (by simpa using h64)
  rw [List.length_map] at this; exact this

theorem fill_ones (n : Nat) (vs : List Value) (h : ∀ v ∈ vs, v.oneCell' = true) : ∀ v ∈ fill n z32 vs, v.oneCell' = true := by
  intro v hv
  rcases List.mem_append.1 hv with h1 | h1
  · exact h v h1
  · rw [(List.mem_replicate.1 h1).2]; rfl
theorem fill_ones8 {n : Nat} {L : List Nat} : ∀ v ∈ fill n z32 (L.map sqV), v.oneCell' = true :=
  fill_ones _ _ fun v hv => by obtain ⟨x, _, rfl⟩ := List.mem_map.1 hv; rfl
theorem fill_ones64 {n : Nat} {L : List Nat} : ∀ v ∈ fill n z32 (L.map cbV), v.oneCell' = true :=
  fill_ones _ _ fun v hv => by obtain ⟨x, _, rfl⟩ := List.mem_map.1 hv; rfl
/-- What 'constants' returns: the two arrays. -/
def consStart : List Value := ((primesL 312).take 8).map sqV
def consRounds : List Value := (primesL 312).map cbV

set_option maxHeartbeats 4000000 in
theorem constants_any (w : World) :
    Calls Try.prog 24 #[] w fun e w' => e = .returned (.tuple #[.agg consStart.toArray, .agg consRounds.toArray]) ∧ Below w.heap.size w w' := by
  go_enter Try.func24, Try.ntmps24
  go_wp2_with fail
  go_loopw [2, 3] (fun f i wr => ∃ p : Nat, 2 ≤ p ∧ p ≤ 312 ∧ i = .int .u64 p ∧ f = .int .i64 (primesL p).length ∧ ConsAt w (primesL p) wr) (fun _ i _ => 312 - (intOf i).toNat)
  case atStart => exact ⟨2, by omega, by omega, rfl, rfl, ConsAt.start w⟩
  case round =>
    obtain ⟨p, h2, hp, rfl, rfl, hC⟩ := hrel
    by_cases h64 : (primesL p).length < 64
    · have hp' := primes_left p h64
      cases hpr : primeB p with
      | false =>
        have HS := Lib.hid (primesL_no p hpr)
        go_wp2_with fail
        refine (prime_any p (by omega) _).mono ?_; rintro e w' ⟨rfl, rfl⟩
        go_wp2_with fail
        go_roundw
        case rel => exact ⟨p + 1, by omega, by omega, by go_num, by rw [HS.out], by rw [HS.out]; exact hC⟩
        case measure => simp [intOf]; omega
      | true =>
        have HS := Lib.hid (primesL_yes p h2 hpr)
        have hrc := hC.rcell h64
        have hrf := hC.r.frozen (primesL p).length
        by_cases h8 : (primesL p).length < 8
        · have hsc := hC.scell h8
          have hsf := hC.s.frozen (primesL p).length
          have HC := hC.both p h8
          generalize primesL p = L at *
          go_wp2_with fail
          refine (prime_any p (by omega) _).mono ?_; rintro e w' ⟨rfl, rfl⟩
          go_wp2_with fail
          refine (fractionSq_any p _).mono ?_; rintro e w' ⟨rfl, rfl⟩
          go_wp2_with fail
          refine (fractionCb_any p (by omega) _).mono ?_; rintro e w' ⟨rfl, rfl⟩
          go_wp2_with fail
          go_roundw
          case rel => exact ⟨p + 1, by omega, by omega, by go_num, by rw [HS.out]; simp, by rw [HS.out]; exact HC⟩
          case measure => simp [intOf]; omega
        · have HC := hC.one p h8 h64
          generalize primesL p = L at *
          go_wp2_with fail
          refine (prime_any p (by omega) _).mono ?_; rintro e w' ⟨rfl, rfl⟩
          go_wp2_with fail
          refine (fractionCb_any p (by omega) _).mono ?_; rintro e w' ⟨rfl, rfl⟩
          go_wp2_with fail
          go_roundw
          case rel => exact ⟨p + 1, by omega, by omega, by go_num, by rw [HS.out]; simp, by rw [HS.out]; exact HC⟩
          case measure => simp [intOf]; omega
    · have hpe := primes_done p h64 hp
      subst hpe
      have h64' : (primesL 312).length = 64 := primesL_312
      go_wp2_with fail
      obtain ⟨S, hSe⟩ : ∃ S : Array Value, S = (fill 8 z32 (((primesL 312).take 8).map sqV)).toArray := ⟨_, rfl⟩
      obtain ⟨R, hRe⟩ : ∃ R : Array Value, R = (fill 64 z32 ((primesL 312).map cbV)).toArray := ⟨_, rfl⟩
      have hS : wr.drew.heap[w.heap.size]? = some (.cells S 47 (0, 0)) := by rw [hSe]; exact hC.s
      have hR : wr.drew.heap[w.heap.size + 1]? = some (.cells R 46 (0, 0)) := by rw [hRe]; exact hC.r
      have hSi : (Try.prog.info? 47).map (·.size) = some S.size := by
        rw [hSe, List.size_toArray, fill_length (by simp; omega)]; kernel_rfl
      have hRi : (Try.prog.info? 46).map (·.size) = some R.size := by
        rw [hRe, List.size_toArray, fill_length (by simp; omega)]; kernel_rfl
      have hSo : S.all (·.oneCell') = true := by rw [hSe]; exact all_oneCell_toArray fill_ones8
      have hRo : R.all (·.oneCell') = true := by rw [hRe]; exact all_oneCell_toArray fill_ones64
      have hSl := run_loadVar_row (P := Try.prog) wr.drew w.heap.size 47 47 S (0, 0) _ hS Try.underlying47 rfl hSi
      have hRl := run_loadVar_row (P := Try.prog) wr.drew (w.heap.size + 1) 46 46 R (0, 0) _ hR Try.underlying46 rfl hRi
      have hfin : ∀ tm : Array Value, tm[0]?.getD undef = .pointer (some ⟨w.heap.size, 0, none⟩) → tm[1]?.getD undef = .pointer (some ⟨w.heap.size + 1, 0, none⟩) →
          (results Try.f24 tm).run Try.prog wr.drew = .ok (.tuple #[.agg S, .agg R]) wr.drew := by
        intro tm h0 h1
        simp [results, Try.results24, h0, h1, asAddr, hSl, hRl]
      have hv : Ending.returned (.tuple #[.agg S, .agg R]) = .returned (.tuple #[.agg consStart.toArray, .agg consRounds.toArray]) := by
        rw [hSe, hRe, fill_full (by simp [h64']), fill_full (by simp [h64'])]; rfl
      have hb := hC.b.drew
      clear hC hSl hRl hSe hRe
      refine wp_region_any (by kernel_rfl) ?_
      change wpAny _ _ _ _ _ _ _ (World.drew _)
      refine wpAny_ready (rs := [0, 1]) (by kernel_rfl) (by simp) ?_
      refine AllReady.cons rfl (fun K hK => ?_) ?_
      · refine step_plain rfl (wp_load_row 47 _ rfl w.heap.size rfl 47 S (0, 0) _ hS Try.underlying47 rfl hSi ?_)
        refine hK _ _ ?_; clear hK K
        refine wpAny_ready (rs := [1, 2]) (by kernel_rfl) (by simp) ?_
        refine AllReady.cons rfl (fun K hK => ?_) ?_
        · refine step_plain rfl (wp_load_row 46 _ rfl (w.heap.size + 1) rfl 46 R (0, 0) _ hR Try.underlying46 rfl hRi ?_)
          refine hK _ _ ?_; clear hK K
          refine wpAny_ready (rs := [2]) (by kernel_rfl) (by simp) ?_
          refine AllReady.cons rfl (fun K hK => ?_) ?_
          · refine step_plain rfl (wp_store_row 47 _ _ rfl w.heap.size S rfl rfl 47 S hS hSi rfl hSo ?_)
            rw [setRow_same hS]
            refine hK _ _ ?_; clear hK K
            refine wpAny_ready (rs := [3]) (by kernel_rfl) (by simp) ?_
            refine AllReady.cons rfl (fun K hK => ?_) ?_
            · refine step_plain rfl (wp_store_row 46 _ _ rfl (w.heap.size + 1) R rfl rfl 46 R hR hRi rfl hRo ?_)
              rw [setRow_same hR]
              refine hK _ _ ?_; clear hK K
              refine wpAny_done (by kernel_rfl) ?_ _
              (go_wp2_with fail; exact bodyPost_ret (hfin _ rfl rfl) rfl ⟨hv, hb⟩)
            exact AllReady.nil
          exact AllReady.nil
        refine AllReady.cons rfl (fun K hK => ?_) ?_
        · refine step_plain rfl (wp_store_row 47 _ _ rfl w.heap.size S rfl rfl 47 S hS hSi rfl hSo ?_)
          rw [setRow_same hS]
          refine hK _ _ ?_; clear hK K
          refine wpAny_ready (rs := [1]) (by kernel_rfl) (by simp) ?_
          refine AllReady.cons rfl (fun K hK => ?_) ?_
          · refine step_plain rfl (wp_load_row 46 _ rfl (w.heap.size + 1) rfl 46 R (0, 0) _ hR Try.underlying46 rfl hRi ?_)
            refine hK _ _ ?_; clear hK K
            refine wpAny_ready (rs := [3]) (by kernel_rfl) (by simp) ?_
            refine AllReady.cons rfl (fun K hK => ?_) ?_
            · refine step_plain rfl (wp_store_row 46 _ _ rfl (w.heap.size + 1) R rfl rfl 46 R hR hRi rfl hRo ?_)
              rw [setRow_same hR]
              refine hK _ _ ?_; clear hK K
              refine wpAny_done (by kernel_rfl) ?_ _
              (go_wp2_with fail; exact bodyPost_ret (hfin _ rfl rfl) rfl ⟨hv, hb⟩)
            exact AllReady.nil
          exact AllReady.nil
        exact AllReady.nil
      refine AllReady.cons rfl (fun K hK => ?_) ?_
      · refine step_plain rfl (wp_load_row 46 _ rfl (w.heap.size + 1) rfl 46 R (0, 0) _ hR Try.underlying46 rfl hRi ?_)
        refine hK _ _ ?_; clear hK K
        refine wpAny_ready (rs := [0]) (by kernel_rfl) (by simp) ?_
        refine AllReady.cons rfl (fun K hK => ?_) ?_
        · refine step_plain rfl (wp_load_row 47 _ rfl w.heap.size rfl 47 S (0, 0) _ hS Try.underlying47 rfl hSi ?_)
          refine hK _ _ ?_; clear hK K
          refine wpAny_ready (rs := [2]) (by kernel_rfl) (by simp) ?_
          refine AllReady.cons rfl (fun K hK => ?_) ?_
          · refine step_plain rfl (wp_store_row 47 _ _ rfl w.heap.size S rfl rfl 47 S hS hSi rfl hSo ?_)
            rw [setRow_same hS]
            refine hK _ _ ?_; clear hK K
            refine wpAny_ready (rs := [3]) (by kernel_rfl) (by simp) ?_
            refine AllReady.cons rfl (fun K hK => ?_) ?_
            · refine step_plain rfl (wp_store_row 46 _ _ rfl (w.heap.size + 1) R rfl rfl 46 R hR hRi rfl hRo ?_)
              rw [setRow_same hR]
              refine hK _ _ ?_; clear hK K
              refine wpAny_done (by kernel_rfl) ?_ _
              (go_wp2_with fail; exact bodyPost_ret (hfin _ rfl rfl) rfl ⟨hv, hb⟩)
            exact AllReady.nil
          exact AllReady.nil
        exact AllReady.nil
      exact AllReady.nil
end Go.Proofs.Ytigpccfglicjeaa
