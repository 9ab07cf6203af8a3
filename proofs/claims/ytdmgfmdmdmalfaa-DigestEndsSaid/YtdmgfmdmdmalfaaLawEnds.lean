/- DigestEnds: at all lengths about a block's end the digest is the document's. For every number and every byte; no condition. -/
import Derived.Test.YtdmgfmdmdmalfaaRefPad
import Derived.Test.YtdmgfmdmdmalfaaKeys
namespace Go.Proofs.Ytdmgfmdmdmalfaa
open Go.RowKit Go.WideShapes Go.ChangeShapes Go.ChangeAt

/-- The first i bytes of the law's own text. -/
def rising (f : Int) (i : Nat) : List Int := (List.range i).map fun (j : Nat) => (f + j) % 256
theorem rising_length (f : Int) (i : Nat) : (rising f i).length = i := by simp [rising]
theorem rising_succ (f : Int) (i : Nat) : rising f (i + 1) = rising f i ++ [(f + i) % 256] := by simp [rising, List.range_succ]

theorem madeZeros (k : Nat) : (madeCells #[Value.int .u8 0] k).toList = List.replicate k (.int .u8 0) := by
  refine List.eq_replicate_iff.2 ⟨by simp [madeCells], fun b hb => ?_⟩
  simp [madeCells] at hb
  obtain ⟨j, _, rfl⟩ := hb
  simp [Nat.mod_one]

set_option maxHeartbeats 4000000 in
theorem ends_any (nn f : Int) (w : World) :
    Calls Try.prog 8 #[.int .i64 nn, .int .u8 f] w fun e w' => e = .returned (.bool true) ∧ Below w.heap.size w w' := by
  obtain ⟨k, hk⟩ : ∃ k : Nat, IntKind.u64.wrap nn % 260 = (k : Int) := ⟨(IntKind.u64.wrap nn % 260).toNat, by rw [Int.toNat_of_nonneg (Int.emod_nonneg _ (by omega))]⟩
  have hu0 : 0 ≤ IntKind.u64.wrap nn := by rw [IntKind.wrap_u64]; omega
  have hk260 : k < 260 := by have := Int.emod_lt_of_pos (IntKind.u64.wrap nn) (show (0 : Int) < 260 by omega); omega
  go_enter Try.func8, Try.ntmps8
  go_wp2_with fail
  refine (awake_any _).mono ?_; rintro e w1 ⟨rfl, hb1⟩
  obtain ⟨i0, hi, hz0, hz1, hz2⟩ := info_parts byteInfo
  have HI := Lib.hid hi
  have HZ0 := Lib.hid hz0
  have HZ1 := Lib.hid hz1
  have HZ2 := Lib.hid hz2
  clear hi hz0 hz1 hz2
  go_wp2_with (with_reducible refine wpList_make_full w1 rfl (.tmp 12) (.tmp 12) 22 rfl w1.heap.size 5 i0 (.int .u8 0) 1 Try.underlying22 HI.out HZ0.out HZ1.out .i64 .i64 k k k ?_ ?_ rfl rfl ?_ ?_ ?_ ?_)
  case refine_1 => rfl
  case refine_2 => rfl
  case refine_3 => rw [HZ2.out]; omega
  case refine_4 => unfold maxLen; omega
  case refine_5 => exact Nat.le_refl _
  intro w2 hown hg2
  have hB2 : Below w.heap.size w w2 := (hb1.grown hg2 hb1.size fun _ h => by cases h)
  have hz2 : w.heap.size ≤ w1.heap.size := hb1.size
  have hk2 : Blk w2 w1.heap.size 5 (fill k (.int .u8 0) []) := by
    rcases hown.2 with ⟨h0, _⟩ | ⟨g, cap, cur, hv, _, hh, _, _, hcs, hxs⟩
    · cases h0
    · cases hv
      unfold Blk
      rw [hh, Nat.mul_one] at *
      rw [List.take_of_length_le (by simp [hcs])] at hxs
      have : cur = (fill k (.int .u8 0) []).toArray := by
        apply Array.ext'
        rw [hxs, madeZeros]; simp [fill]
      rw [this]
  clear hown hg2 hb1 HI HZ0 HZ1 HZ2
  have hgo : w.heap.size ≤ w1.heap.size := hz2
  go_wp2_with fail
  go_loopw [6, 16] (fun _ s16 wr => ∃ i : Nat, i ≤ k ∧ s16 = .int .i64 i ∧ Blk wr w1.heap.size 5 (fill k (.int .u8 0) ((rising f i).map (Value.int .u8))) ∧ Below w.heap.size w wr) (fun _ s16 _ => k - (intOf s16).toNat)
  case atStart => exact ⟨0, by omega, rfl, hk2, hB2⟩
  case round =>
    clear hk2 hB2
    obtain ⟨i, hi, rfl, hb, hB⟩ := hrel
    by_cases hlt : i < k
    · have hl := rising_length f i
      have cn : wr.cell? ⟨w1.heap.size, i, none⟩ = some (.int .u8 0) := by
        refine hb.cell ?_
        have := fill_next (n := k) (z := .int .u8 0) (vs := (rising f i).map (Value.int .u8)) (by simpa [rising] using hlt)
        rw [List.length_map, hl] at this; exact this
      have cf := hb.frozen i
      have hst : Hid ((fill k (.int .u8 0) ((rising f i).map (Value.int .u8))).set i (.int .u8 ((f + i) % 256)) = fill k (.int .u8 0) ((rising f (i + 1)).map (Value.int .u8))) := by
        show _ = _
        have := fill_set (n := k) (z := .int .u8 0) (v := .int .u8 ((f + i) % 256)) (vs := (rising f i).map (Value.int .u8)) (by simpa [rising] using hlt)
        rw [List.length_map, hl] at this
        rw [this, rising_succ, List.map_append]; rfl
      clear hl
      go_wp2_with fail
      go_roundw
      case rel => exact ⟨i + 1, by omega, by go_num, by rw [← hst.out]; exact hb.set _ _, hB.setCell (by show w.heap.size ≤ w1.heap.size; exact hgo) _⟩
      case measure => simp [intOf]; omega
    · have hik : i = k := by omega
      subst hik
      rw [fill_full (by simp [rising])] at hb
      have hby : Bytes wr (.slice (some ⟨w1.heap.size, 0, none⟩) i i) (rising f i) := .inr ⟨w1.heap.size, 0, i, by rw [rising_length], by rw [rising_length]; omega, hb.lt, hb.range 0 _ fun j v hv => by rw [Nat.zero_add]; exact hv⟩
      have hpl : (rising f i).length < 67108864 := by rw [rising_length]; omega
      generalize rising f i = p at *
      obtain ⟨X, hX⟩ : ∃ X, X = ((sumI p).map (Value.int .u8)).toArray := ⟨_, rfl⟩
      have cS := sum_any _ p wr hby hpl
      rw [← hX] at cS
      have HX := Lib.hid hX
      have HBY := Lib.hid hby
      clear hX hby hb hu0 hk
      go_wp2_with fail
      refine cS.mono ?_; rintro e w3 ⟨rfl, hsl, hb3⟩
      have cR := refSum_any _ p w3 (HBY.out.below hb3) hpl
      rw [← HX.out] at cR
      have heq := key_same 24 Try.underlying24 X p HX.out hsl
      have hB3 := hB.trans (hb3.mono hB.size)
      clear hB hb3 cS
      go_wp2_with fail
      refine cR.mono ?_; rintro e w4 ⟨rfl, hb4⟩
      have hB4 := hB3.trans (hb4.mono hB3.size)
      clear hB3 hb4 cR
      go_wp2_with fail
      go_ret
      exact ⟨rfl, hB4⟩

set_option maxRecDepth 100000 in
theorem ends_lifted (os : Os) (started : os.Started) (H : Type) (enc : TypeId × Value → H) :
    ReturnsInHanded {} Try.checked os 8 .any (Rows.digestEndsSpec.pre6 enc Try.prog Try.f8 Rows.digestEndsRow.domain false) (Rows.digestEndsSpec.post enc Try.prog Try.f8 false true false false) := by
  refine returnsInHanded_of_change (C := Try.checked) Try.own started (by kernel_rfl) Try.func8
    (ChangeSpec.witness6 (enc := enc) (C := Try.checked) false ⟨#[], #[.int .i64 0, .int .u8 0], []⟩ 8 (by kernel_rfl) (by kernel_rfl) (by kernel_rfl) (by kernel_rfl)) ?_
  intro W base args ds gs before hval0 hW hcnd _
  have hval : ∀ (j : Nat) t v, Try.f8.params[j]? = some t → args[j]? = some v → Value.okWide Try.prog W .any base t v := hval0
  have hW' := hW
  obtain ⟨p, q, hA0, hV, hbe, hfz, hnd⟩ := hW
  have hA : DataW.TrodAll enc Try.prog W 0 (fun _ => true) true Try.f8.params.toList args.toList ds p := hA0
  rw [Try.params8] at hA hval
  obtain ⟨v0, v1, d0, d1, p0, p1, rfl, rfl, _, h0, h1⟩ := trodAll_two hA
  obtain ⟨a, rfl, _, _, _⟩ := open_int Try.underlying3 (hval 0 _ v0 rfl rfl) h0
  obtain ⟨b, rfl, _, _, _⟩ := open_int Try.underlying5 (hval 1 _ v1 rfl rfl) h1
  clear hA0 hval0 hfz hnd
  refine (ends_any a b W).mono fun e W' ⟨he, hb⟩ => ?_
  subst he
  obtain rfl : gs = [] := (trodVars_none hV).1
  exact ⟨_, rfl, law_post Try.laidOut hW' rfl (by rw [Try.params8]; decide +kernel) (tb := 4) rfl Try.underlying4 hb rfl⟩

theorem ends_holds : Rows.DigestEndsSaid :=
  OpenClaim.holds_of_wide 8 Try.f8 rfl rfl rfl rfl rfl rfl rfl ⟨rfl, rfl, rfl, rfl, rfl⟩ rfl rfl rfl rfl rfl (by kernel_rfl) Try.func8 (by kernel_rfl)
    (of_decide_eq_true (by kernel_rfl)) (by unfold Func.isWrapper; first | (rw [if_pos (by decide +kernel)]; kernel_rfl) | (rw [if_neg (by decide +kernel)]; exact ⟨rfl, rfl⟩))
    (fun os started H enc _ => ends_lifted os started H enc)
end Go.Proofs.Ytdmgfmdmdmalfaa
