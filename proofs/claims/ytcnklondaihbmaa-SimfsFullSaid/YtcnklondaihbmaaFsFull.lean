/- SimfsFull: there is room for so many bytes, and for 64 names, and not for one more. For every number and every slice of numbers; no condition. -/
import Derived.Test.YtcnklondaihbmaaFsFuW
namespace Go.Proofs.Ytcnklondaihbmaa
open Go.RowKit Go.WideShapes Go.ChangeShapes Go.ChangeAt

theorem fu_made (k : Nat) : (madeCells #[Value.int .u8 0] k).toList = List.replicate k (.int .u8 0) := by
  refine List.eq_replicate_iff.2 ⟨by simp [madeCells], fun b hb => ?_⟩
  simp [madeCells] at hb
  obtain ⟨j, _, rfl⟩ := hb
  simp [Nat.mod_one]
theorem fu_row {w : World} {x k : Nat} (h : w.ownsRow x 5 1 (.slice (some ⟨x, 0, none⟩) k k) k (List.replicate k (Value.int .u8 0))) : Bytes w (.slice (some ⟨x, 0, none⟩) k k) (List.replicate k 0) := by
  rcases h.2 with ⟨h0, _⟩ | ⟨g, cap, cur, hv, _, hh, _, _, hcs, hxs⟩
  · cases h0
  · cases hv
    refine .inr ⟨x, 0, k, by simp, by simp, (Array.getElem?_eq_some_iff.1 hh).1, fun j v hj => ?_⟩
    rw [Nat.zero_add, cell_of_row w x j cur _ _ hh, ← Array.getElem?_toList]
    rw [List.take_of_length_le (by simp [hcs])] at hxs
    rw [hxs]
    simpa using hj
theorem fu_parts {i : Nat} (hi : i < 70) : ∃ a b x y : Int, (i : Int).tmod 10 = a ∧ (i : Int).tdiv 10 = b ∧ IntKind.i64.wrap b = b ∧ wrap64 b = b ∧ IntKind.u8.wrap a = a ∧ IntKind.u8.wrap b = b ∧ IntKind.u8.wrap (97 + a) = x ∧ IntKind.u8.wrap (97 + b) = y ∧
    (⟨#[102]⟩ : ByteArray) ++ strOfNums [x, y] = nmB i := by
  obtain ⟨ta, hta⟩ : ∃ ta : Nat, ta = i % 10 := ⟨_, rfl⟩
  obtain ⟨tb, htb⟩ : ∃ tb : Nat, tb = i / 10 := ⟨_, rfl⟩
  have e1 : (i : Int).tmod 10 = (ta : Int) := by rw [Int.tmod_eq_emod_of_nonneg (by omega)]; omega
  have e2 : (i : Int).tdiv 10 = (tb : Int) := by rw [Int.tdiv_eq_ediv_of_nonneg (by omega)]; omega
  have := strOf_two i hi
  rw [← hta, ← htb, Int.natCast_add, Int.natCast_add] at this
  exact ⟨_, _, _, _, e1, e2, IntWalk.i64_in _ (by omega), by unfold wrap64; omega, IntWalk.u8_in _ (by omega), IntWalk.u8_in _ (by omega), IntWalk.u8_in _ (by omega), IntWalk.u8_in _ (by omega), this⟩
set_option maxRecDepth 100000 in
set_option maxHeartbeats 400000 in
theorem fullLaw_any (room : Int) (v : Value) (p : List Int) (w : World) (hp : Ints w v p) (hl : p.length < 9223372036854775808) :
    Calls Try.prog 6 #[.int .i64 room, v] w fun e w' => e = .returned (.bool true) ∧ Below w.heap.size w w' := by
  obtain ⟨va, vc, rfl⟩ := hp.slice
  have HP := Lib.hid hp
  clear hp
  obtain ⟨R0, hR0, hR3⟩ := mod_natM 3000 room (by omega) (by omega)
  obtain ⟨i0, hi, hz0, hz1, hz2⟩ := info_parts byteInfo
  have HI0 := Lib.hid hi
  have HZ0 := Lib.hid hz0
  have HZ1 := Lib.hid hz1
  have HZ2 := Lib.hid hz2
  clear hi hz0 hz1 hz2
  go_enter Try.func6, Try.ntmps6
  go_wp2_with fail
  refine (awake_any _).mono ?_; rintro e w1 ⟨rfl, hb1⟩
  have HB1 := Lib.hid hb1
  clear hb1
  obtain ⟨R, hR⟩ : ∃ R : Int, R = (R0 : Int) + 1 := ⟨_, rfl⟩
  have hR1 : 1 ≤ R := by omega
  have hR2 : R ≤ 3000 := by omega
  have hRw : wrap64 ((R0 : Int) + 1) = R := by unfold wrap64; omega
  clear hR hR3
  go_wp2_with fail
  refine (new_own R (by omega) (by omega) w w1 HB1.out).mono ?_; rintro e w2 ⟨g, rfl, hw2⟩
  have H2 := Lib.hid (FuQ.new hw2 (by omega) (by omega))
  clear hw2
  go_wp2_with fail
  clear hR0 hRw
  go_loopw [7, 8] (fun s7 s8 wr => ∃ i u : Nat, i ≤ 70 ∧ s8 = .int .i64 i ∧ s7 = .int .i64 u ∧ FuQ w wr g R i u)
    (fun _ s8 _ => 70 - (intOf s8).toNat)
  case atStart => exact ⟨0, 0, by omega, rfl, rfl, H2.out⟩
  case round =>
    clear H2
    obtain ⟨i, u, hi, rfl, rfl, hq⟩ := hrel
    have hul := hq.le
    have HQ := Lib.hid hq
    clear hq
    by_cases hlt : i < 70
    · have li : (i : Int) < 70 := by omega
      obtain ⟨a, b, x, y, r1, r2, r3, r4, s1, s2, t1, t2, hnm⟩ := fu_parts hlt
      have HN := Lib.hid hnm
      clear hnm
      have hcv : (convert 37 9 (.slice (some ⟨wr.heap.size, 0, none⟩) 2 2)).run Try.prog (wr.alloc (.cells #[.int .u8 x, .int .u8 y] 5)) = .ok (.string (strOfNums [x, y])) (wr.alloc (.cells #[.int .u8 x, .int .u8 y] 5)) :=
        run_string (p := [x, y]) (Or.inr ⟨wr.heap.size, 0, 2, rfl, Nat.le_refl _, by show wr.heap.size < (wr.alloc _).heap.size; simp, (Blk.new wr 5 ([x, y].map (Value.int .u8))).range 0 _ fun j v hv => by rw [Nat.zero_add]; exact hv⟩)
      go_wp2_with fail
      rw [HN.out]
      have hB1 : Below wr.heap.size wr (wr.alloc (.cells #[.int .u8 x, .int .u8 y] 5)) := (Below.refl _ _).alloc (Nat.le_refl _) _
      clear hcv r1 r2 r3 r4 s1 s2 t1 t2
      have HQ1 := Lib.hid (HQ.out.below hB1)
      clear hB1 HQ HN
      by_cases h64 : i < 64
      · have l64 : (i : Int) < 64 := by omega
        refine (fu_create HQ1.out h64).mono ?_; rintro e w3 ⟨rfl, hm⟩
        have HM := Lib.hid hm
        clear hm HQ1
        by_cases hlen : i < p.length
        · have llen : ¬ ((p.length : Int) ≤ i) := by omega
          rcases HP.out with ⟨_, h0⟩ | ⟨pb, po, cap, hv, hpb, hr⟩
          · subst h0; simp at hlen
          cases hv
          have c := hr i (.int .i64 (p.getD i 0)) (by rw [List.getElem?_map, List.getD_eq_getElem?_getD, List.getElem?_eq_getElem hlen]; rfl)
          rw [← World.cell?_of_block (w := w) (HM.out.base.block pb hpb)] at c
          have llen' : (i : Int) < p.length := by omega
          generalize p.getD i 0 = q at c
          obtain ⟨N, hN, hN2⟩ := mod_natM 200 q (by omega) (by omega)
          clear hr hpb
          have N2 : N < 200 := by omega
          clear hN2
          go_wp2_with (with_reducible refine wpList_make_full w3 rfl (.tmp 78) (.tmp 78) 37 rfl w3.heap.size 5 i0 (.int .u8 0) 1 Try.underlying37 HI0.out HZ0.out HZ1.out .i64 .i64 N N N ?_ ?_ rfl rfl ?_ ?_ ?_ ?_)
          case refine_1 => exact congrArg (Value.int .i64) hN
          case refine_2 => exact congrArg (Value.int .i64) hN
          case refine_3 => rw [HZ2.out]; omega
          case refine_4 => unfold maxLen; omega
          case refine_5 => exact Nat.le_refl _
          intro wM hown hgM
          clear hN c
          have hBM : Below w3.heap.size w3 wM := (Below.refl _ _).grown hgM (Nat.le_refl _) fun _ h => by cases h
          have hby : Bytes wM (.slice (some ⟨w3.heap.size, 0, none⟩) N N) (List.replicate N 0) := fu_row (by simpa only [fu_made] using hown)
          have HBM := Lib.hid hBM
          have HBY := Lib.hid hby
          clear hown hgM hBM hby
          obtain ⟨z, hz, hcase⟩ := fu_facts u N R
          have HZ := Lib.hid hz
          clear hz
          rcases hcase with ⟨hle, lroom⟩ | ⟨hle, lroom⟩
          · have HR := Lib.hid hle
            clear hle
            go_wp2_with fail
            refine (fu_zeros HM.out h64 HBM.out HBY.out N2 (Nat.le_refl _) HZ.out HR.out).mono ?_; rintro e w4 ⟨rfl, hq4⟩
            have H4 := Lib.hid hq4
            clear hq4
            go_wp2_with fail
            go_roundw
            case rel => exact ⟨i + 1, u + N, Nat.succ_le_of_lt hlt, by go_num, congrArg (Value.int .i64) (Int.natCast_add u N).symm, by rw [HZ.out]; exact H4.out⟩
            case measure => simp [intOf]; omega
          · have HR := Lib.hid hle
            clear hle
            go_wp2_with fail
            refine (fu_zeros_no HM.out h64 HBM.out HBY.out N2 (Nat.le_refl _) HZ.out HR.out).mono ?_; rintro e w4 ⟨rfl, hq4⟩
            have H4 := Lib.hid hq4
            clear hq4
            go_wp2_with fail
            go_roundw
            case rel => exact ⟨i + 1, u, by omega, by go_num, rfl, H4.out⟩
            case measure => simp [intOf]; omega
        · have llen : (p.length : Int) ≤ i := by omega
          go_wp2_with fail
          go_roundw
          case rel => exact ⟨i + 1, u, by omega, by go_num, rfl, HM.out.skip h64⟩
          case measure => simp [intOf]; omega
      · have l64 : ¬ ((i : Int) < 64) := by omega
        refine (fu_full HQ1.out h64 hlt).mono ?_; rintro e w3 ⟨rfl, hm⟩
        have HM := Lib.hid hm
        clear hm HQ1
        go_wp2_with fail
        go_roundw
        case rel => exact ⟨i + 1, u, by omega, by go_num, rfl, HM.out⟩
        case measure => simp [intOf]; omega
    · have hi70 : i = 70 := by omega
      subst hi70
      go_wp2_with fail
      refine (fu_used HQ.out).mono ?_; rintro e w3 ⟨rfl, hq3⟩
      have H3 := Lib.hid hq3
      clear hq3
      go_wp2_with fail
      refine (fu_len H3.out).mono ?_; rintro e w4 ⟨la, lc, rfl, hE⟩
      have HE := Lib.hid hE
      clear hE
      go_wp2_with fail
      go_ret
      exact ⟨rfl, HE.out⟩
end Go.Proofs.Ytcnklondaihbmaa
