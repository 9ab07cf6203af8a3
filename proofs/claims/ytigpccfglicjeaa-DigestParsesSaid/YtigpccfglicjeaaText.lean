/- The text of a digest: the program's 'Text'. -/
import Derived.Test.YtigpccfglicjeaaKeys
import Derived.Test.YtigpccfglicjeaaDigits
import Derived.Test.YtigpccfglicjeaaQuiet
import Derived.Deep.RegionHeldLaw
namespace Go.Proofs.Ytigpccfglicjeaa
open Go.RowKit

/-- The two digits of each byte. -/
def textI (k : List Int) : List Int := k.flatMap fun b => [dig (b / 16), dig (b % 16)]

theorem two_range {w : World} {x y : Int} {t : TypeId} : (w.alloc (.cells #[Value.int .u8 x, Value.int .u8 y] t)).rangeAt w.heap.size 0 ([x, y].map (Value.int .u8)) :=
  (Blk.new w t [Value.int .u8 x, Value.int .u8 y]).range 0 _ fun j v hv => by rw [Nat.zero_add]; exact hv
/-- The append of bytes to what the call owns, as a single step of a region that draws its order. -/
theorem step_append_bytes {ops : Array Oper} {o : Oper} {a : Act} {w : World} {K : Act → World → Prop} {Q : Exit → Act → World → Prop} {E : Prop} (hgd : o.guard = none) (s x : Operand)
    (ho : o.op = .call { callee := .builtin .append, args := #[s, x], argTypes := #[22, 22] })
    (base : Nat) (v : Value) (ys : List Int) (hs : a.eval s = v) (hown : OwnB w base v ys) (b off m c : Nat) (news : List Int) (hx : a.eval x = .slice (some ⟨b, off, none⟩) m c) (hl : news.length = m)
    (hnews : w.rangeAt b off (news.map (Value.int .u8))) (hle : ys.length + m ≤ 140737488355328) (hbase : base ≤ w.heap.size)
    (h : ∀ v' w', OwnB w' base v' (ys ++ news) → w.grownBy w' v.ownBlock → K (a.put o.dst v') w') : if Region.wanted o (yielded ops a.tmps) = true then Oper.wp Try.prog o a w K Q else E := by
  obtain ⟨i0, hi, hz0, hz1, hz2⟩ := info_parts byteInfo
  refine step_plain hgd (wp_append_own w s x 22 ho base 5 i0 (.int .u8 0) 1 1 Try.underlying22 hi hz0 hz1 hz2 rfl (by decide) v ys.length (ys.map (Value.int .u8)) hs hown ⟨b, off, none⟩ m c (news.map (Value.int .u8)) hx
    (by simpa using hl) (fun j u hu => by rw [Addr.add_mid]; exact hnews j u hu) (ones_int _ _) (by unfold maxLen; omega) (by omega) hbase ?_)
  intro v' w' h1 h2 _
  refine h v' w' ?_ h2
  unfold OwnB
  rw [List.length_append, hl, List.map_append]; exact h1
theorem textI_take (k : List Int) (i : Nat) (hi : i < k.length) : textI (k.take (i + 1)) = textI (k.take i) ++ [dig (k.getD i 0 / 16), dig (k.getD i 0 % 16)] := by
  unfold textI
  rw [List.take_succ_eq_append_getElem hi, List.flatMap_append, List.getD_eq_getElem?_getD, List.getElem?_eq_getElem hi]; rfl
theorem textI_length : ∀ k : List Int, (textI k).length = 2 * k.length
  | [] => rfl
  | a :: k => by
    have := textI_length k
    unfold textI at *
    rw [List.flatMap_cons, List.length_append, this, List.length_cons]; simp; omega
theorem bits_low (b : Int) (h0 : 0 ≤ b) (h1 : b ≤ 255) : bits .and .u8 b 15 = b % 16 := by
  obtain ⟨n, rfl⟩ : ∃ n : Nat, b = (n : Int) := ⟨b.toNat, by omega⟩
  have key : ∀ n : Nat, n < 256 → bits .and .u8 (n : Int) 15 = (n : Int) % 16 := by decide +kernel
  exact key n (by omega)
theorem hex_at (x : Int) (h0 : 0 ≤ x) (h16 : x < 16) (w : World) :
    (Instr.index 9 (.string ⟨#[48, 49, 50, 51, 52, 53, 54, 55, 56, 57, 97, 98, 99, 100, 101, 102]⟩) (.int .u8 x)).run Try.prog w = .ok (.int .u8 (dig x)) w := by
  obtain ⟨n, rfl⟩ : ∃ n : Nat, x = (n : Int) := ⟨x.toNat, by omega⟩
  have hn : n < 16 := by omega
  rw [run_index_string w _ _ _ _ Try.underlying9, dif_pos ⟨h0, h16⟩]
  have key : ∀ (n : Nat) (h : n < 16), (((#[48, 49, 50, 51, 52, 53, 54, 55, 56, 57, 97, 98, 99, 100, 101, 102] : Array UInt8)[n]'h).toNat : Int) = dig n := by decide +kernel
  exact congrArg (fun z => Result.ok (Value.int .u8 z) w) (key n hn)

set_option maxHeartbeats 4000000 in
theorem text_any (k : List Int) (hl : k.length = 32) (hb : ∀ i, i < 32 → 0 ≤ k.getD i 0 ∧ k.getD i 0 ≤ 255) (w : World) :
    Calls Try.prog 13 #[.agg (k.map (Value.int .u8)).toArray] w fun e w' => e = .returned (.string (strOfNums (textI k))) ∧ Below w.heap.size w w' := by
  obtain ⟨K, hK⟩ : ∃ K : List Value, K = k.map (Value.int .u8) := ⟨_, rfl⟩
  rw [← hK]
  have HK := Lib.hid hK
  clear hK
  go_enter Try.func13, Try.ntmps13
  obtain ⟨i0, hi, hz0, hz1, hz2⟩ := info_parts byteInfo
  have HI := Lib.hid hi
  have HZ0 := Lib.hid hz0
  have HZ1 := Lib.hid hz1
  have HZ2 := Lib.hid hz2
  clear hi hz0 hz1 hz2
  go_wp2_with (with_reducible refine wpList_make_own (w.alloc (.cells K.toArray 25)) rfl (.const (.int .i64 0)) (.const (.int .i64 64)) 22 rfl (w.heap.size + 1) 5 i0 (.int .u8 0) 1 Try.underlying22 HI.out HZ0.out HZ1.out .i64 .i64 64 64 ?_ ?_ rfl ?_ ?_ ?_ ?_)
  case refine_1 => rfl
  case refine_2 => rfl
  case refine_3 => rw [HZ2.out]; omega
  case refine_4 => unfold maxLen; omega
  case refine_5 => simp
  intro w1 hown hg1
  have hbe : Below (w.heap.size + 1) (w.alloc (.cells K.toArray 25)) w1 := (Below.refl _ _).grown hg1 (by simp) fun _ h => by cases h
  have hk1 : Blk w1 w.heap.size 25 K := Below.blk hbe (by omega) (Blk.new w 25 K)
  have hB1 : Below w.heap.size w w1 := ((Below.refl _ _).alloc (Nat.le_refl _) _).trans (hbe.mono (by omega))
  have hz1 : w.heap.size < w1.heap.size := hk1.lt
  have hKs : K.toArray.size = 32 := by rw [List.size_toArray, HK.out, List.length_map, hl]
  clear hg1 hbe
  have HOW := Lib.hid hown
  have HBB := Lib.hid hB1
  clear hown hB1
  go_wp2_with ((with_reducible refine wpList_load_row_g 25 (.tmp 1) rfl ?_ w.heap.size ?_ 25 K.toArray (0, 0) _ ?_ Try.underlying25 rfl ?_ ?_); (exact rfl); (exact rfl); (exact hk1); (rw [hKs]; kernel_rfl))
  go_loopw [3, 8] (fun s3 s8 wr => ∃ (i c : Nat) (g : Option Addr), i ≤ 32 ∧ s8 = .int .i64 i ∧ s3 = .slice g (2 * i) c ∧ OwnB wr (w.heap.size + 1) s3 (textI (k.take i)) ∧ Below w.heap.size w wr ∧ w.heap.size < wr.heap.size)
    (fun _ s8 _ => 32 - (intOf s8).toNat)
  case atStart => exact ⟨0, 64, some ⟨w.heap.size + 1, 0, none⟩, by omega, rfl, rfl, HOW.out, HBB.out, hz1⟩
  case round =>
    obtain ⟨i, c, g, hi, rfl, rfl, hO, hB, hz⟩ := hrel
    by_cases hlt : i < 32
    · have li : (i : Int) < 32 := by omega
      have hbi := hb i hlt
      have hik : K.toArray[i]? = some (.int .u8 (k.getD i 0)) := by rw [HK.out, List.getElem?_toArray, List.getElem?_map, getD_some (by omega)]; rfl
      have HT := Lib.hid (textI_take k i (by omega))
      generalize k.getD i 0 = b at *
      have hix := fun w => run_index_arr (P := Try.prog) Try.underlying25 Try.isAgg5 Try.sizeOf5 hlt hik w
      have hlo := bits_low b hbi.1 hbi.2
      have hx1 := fun w => hex_at (b / 16) (by omega) (by omega) w
      have hx2 := fun w => hex_at (b % 16) (by omega) (by omega) w
      have HO := Lib.hid hO
      clear hik hO
      go_wp2_with fail
      obtain ⟨w2, hw2⟩ : ∃ w2 : World, w2 = wr := ⟨_, rfl⟩
      have hTl : (textI (k.take i)).length = 2 * i := by rw [textI_length, List.length_take, hl]; omega
      go_region_held_law (fun _ => True) (trivial) (first | (refine step_append_bytes rfl (.tmp 11) (.tmp 18) rfl (w.heap.size + 1) (.slice g (2 * i) c) (textI (k.take i)) rfl (OwnB.alloc (w := wr.drew) HO.out _) _ 0 2 2 [dig (b / 16), dig (b % 16)] rfl rfl two_range (by rw [hTl]; omega) (by simp; omega) ?_; intro v' w' hown' hg'))
      all_goals
        have hBw : Below (w.heap.size + 1) wr w' := (Below.alloc (show Below (w.heap.size + 1) wr wr.drew from ⟨rfl, rfl, rfl, Nat.le_refl _, fun _ _ => rfl⟩) (by show w.heap.size + 1 ≤ wr.heap.size; omega) _).trans ((OwnB.alloc (w := wr.drew) HO.out _).below hg' (by simp; omega))
        rw [← HT.out] at hown'
        clear hg'
        obtain ⟨g', c', hv'⟩ := OwnB.slice hown'
        have hTl2 : (textI (k.take (i + 1))).length = 2 * (i + 1) := by rw [textI_length, List.length_take, hl]; omega
        rw [hTl2] at hv'
        subst hv'
        go_wp2_with fail
        go_roundw
        case rel => exact ⟨i + 1, c', g', by omega, by go_num, rfl, hown', hB.trans (hBw.mono (by omega)), Nat.lt_of_lt_of_le hz hBw.size⟩
        case measure => simp [intOf]; omega
    · have hi32 : i = 32 := by omega
      subst hi32
      rw [List.take_of_length_le (show k.length ≤ 32 by omega)] at hO
      have hcv : (convert 22 9 (.slice g 64 c)).run Try.prog wr = .ok (.string (strOfNums (textI k))) wr := run_string (v := .slice g 64 c) hO.bytes
      clear hO
      go_wp2_with fail
      go_ret
      exact ⟨rfl, hB⟩
end Go.Proofs.Ytigpccfglicjeaa
