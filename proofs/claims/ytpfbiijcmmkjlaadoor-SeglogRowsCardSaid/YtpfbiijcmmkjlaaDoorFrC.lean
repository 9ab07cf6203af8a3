/- Package frame: the sum of parts by the table is the sum bit by bit. -/
import Derived.Test.YtpfbiijcmmkjlaaDoorFrB
namespace Go.Proofs.YtpfbiijcmmkjlaaDoor.Fr
open Go.RowKit
set_option maxRecDepth 100000

/-- The sum in the walk's steps: the byte's place in the table, and what the table turns by. -/
theorem place (c : Nat) (x : Int) (h0 : 0 ≤ x) (h1 : x ≤ 255) : bits .xor .u8 ((c : Int) % 256) x = ((c % 256 ^^^ x.toNat : Nat) : Int) ∧ c % 256 ^^^ x.toNat < 256 := by
  obtain ⟨b, rfl⟩ : ∃ b : Nat, x = b := ⟨x.toNat, by omega⟩
  have h := u8_xor_nat (c % 256) b (by omega) (by omega)
  exact ⟨by rw [show ((c : Int) % 256) = ((c % 256 : Nat) : Int) by omega, h]; rfl, Nat.xor_lt_two_pow (n := 8) (by omega) (by omega)⟩
theorem turned (c : Nat) (hc : c < 4294967296) (x : Int) (h0 : 0 ≤ x) (h1 : x ≤ 255) : bits .xor .u32 ((c : Int) / 256) ((m8 (c % 256 ^^^ x.toNat) : Nat) : Int) = ((m8 (c ^^^ x.toNat) : Nat) : Int) := by
  have hk := (place c x h0 h1).2
  have h := xor_u32 (c / 256) (m8 (c % 256 ^^^ x.toNat)) (by omega) (m8_lt (by omega))
  rw [m8_split c x.toNat, ← h]; rfl

set_option maxHeartbeats 4000000 in
theorem tsum_any (g : Nat) (v : Value) (ps : List (List Int)) (w : World) (ht : Blk w g 119 (tabI.map (Value.int .u32))) (hp : Parts w v ps) (hm : ps.length < 9223372036854775807)
    (hq : ∀ i, i < ps.length → (ps.getD i []).length < 9223372036854775807 ∧ Byt (ps.getD i [])) :
    Calls Tryd.prog 64 #[.pointer (some ⟨g, 0, none⟩), v] w fun e w' => e = .returned (.int .u32 (sumN ps.flatten : Nat)) ∧ w = w' := by
  obtain ⟨qa, cap, rfl, hpe⟩ := hp.open
  have HP := Lib.hid hpe
  have HQ := Lib.hid hq
  have HT := Lib.hid ht
  have hby : Byt ps.flatten := Byt.flat fun i hi => (hq i hi).2
  have HBY := Lib.hid hby
  clear hpe hq hp ht hby
  go_enter Tryd.func64, Tryd.ntmps64
  go_wp2
  go_loop [5, 12] (fun s5 s12 => ∃ i : Nat, i ≤ ps.length ∧ s12 = .int .i64 i ∧ s5 = .int .u32 ((crcN 4294967295 (ps.take i).flatten : Nat) : Int)) (fun _ s12 => ps.length - (intOf s12).toNat)
  case atStart => exact ⟨0, by omega, rfl, rfl⟩
  case round =>
    obtain ⟨i, hi, rfl, rfl⟩ := hrel
    by_cases hlt : i < ps.length
    · obtain ⟨qb, qo, u, rfl, hql, hcu, hbu⟩ := HP.out i hlt
      obtain ⟨hpl, hpb⟩ := HQ.out i hlt
      have HFT : Hid (crcN 4294967295 (ps.take (i + 1)).flatten = crcN (crcN 4294967295 (ps.take i).flatten) (ps.getD i [])) := by
        show _ = _; rw [flat_take_succ ps i hlt, crcN_append]
      have hc0 : crcN 4294967295 (ps.take i).flatten < 4294967296 := crcN_lt (by omega) _ (fun z hz => HBY.out z (by
        rw [← List.take_append_drop i ps, List.flatten_append]; exact List.mem_append_left _ hz))
      generalize crcN 4294967295 (ps.take i).flatten = C at *
      generalize ps.getD i [] = p at *
      obtain ⟨ua, uc, rfl⟩ := hbu.slice
      have HB := Lib.hid hbu
      have HPB := Lib.hid hpb
      clear hbu hpb
      go_wp2
      go_loop [5, 18] (fun s5 s18 => ∃ j : Nat, j ≤ p.length ∧ s18 = .int .i64 j ∧ s5 = .int .u32 ((crcN C (p.take j) : Nat) : Int)) (fun _ s18 => p.length - (intOf s18).toNat)
      case atStart => exact ⟨0, by omega, rfl, rfl⟩
      case round =>
        obtain ⟨j, hj, rfl, rfl⟩ := hrel
        by_cases hlt2 : j < p.length
        · have hcj : crcN C (p.take j) < 4294967296 := crcN_lt hc0 _ (HPB.out.take j)
          have HFC : Hid (crcN C (p.take (j + 1)) = m8 (crcN C (p.take j) ^^^ (p.getD j 0).toNat)) := crcN_take C p j hlt2
          generalize crcN C (p.take j) = c at *
          obtain ⟨x0, x1⟩ := HPB.out.getD j
          have hce : ∃ pb po, ua = some ⟨pb, po, none⟩ ∧ w.cell? ⟨pb, po + j, none⟩ = some (.int .u8 (p.getD j 0)) := by
            rcases HB.out with (⟨_, h2⟩ | ⟨pb, po, cap, h1, h2, h3, h4⟩) | ⟨ad, cap, h1, h2⟩
            · subst h2; simp at hlt2
            · cases h1
              exact ⟨pb, po, rfl, h4 j _ (by rw [List.getElem?_map, getD_some hlt2]; rfl)⟩
            · subst h2; simp at hlt2
          obtain ⟨pb, po, rfl, hcx⟩ := hce
          generalize p.getD j 0 = x at *
          obtain ⟨hX, hk⟩ := place c x x0 x1
          have HS := Lib.hid (turned c hcj x x0 x1)
          generalize c % 256 ^^^ x.toNat = k at *
          have hct : w.cell? ⟨g, k, none⟩ = some (.int .u32 ((m8 k : Nat) : Int)) := HT.out.cell (tabI_at k hk)
          go_wp2
          go_round
          case rel => exact ⟨j + 1, by omega, by go_num, by rw [HFC.out, HS.out]⟩
          case measure => simp [intOf]; omega
        · obtain rfl : j = p.length := by omega
          rw [List.take_of_length_le (Nat.le_refl _)]
          go_wp2
          go_round
          case rel => exact ⟨i + 1, by omega, by go_num, by rw [HFT.out]⟩
          case measure => simp [intOf]; omega
    · obtain rfl : i = ps.length := by omega
      rw [List.take_of_length_le (Nat.le_refl _)]
      have hlt4 : crcN 4294967295 ps.flatten < 4294967296 := crcN_lt (by omega) _ HBY.out
      have HX : Hid (bits .xor .u32 ((crcN 4294967295 ps.flatten : Nat) : Int) 4294967295 = ((sumN ps.flatten : Nat) : Int)) := xor_all _ hlt4
      generalize crcN 4294967295 ps.flatten = C at *
      go_wp2
      go_ret
      exact ⟨ret_int (HX.out), rfl⟩
end Go.Proofs.YtpfbiijcmmkjlaaDoor.Fr
