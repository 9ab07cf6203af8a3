/- Bytes are added to a digest's state: 'add'. -/
import Derived.Test.YtigpccfglicjeaaMix
namespace Go.Proofs.Ytigpccfglicjeaa
open Go.RowKit

/-- The state of a digest: its hash, its block, how many bytes were added. -/
structure SS where
  h : List Int
  b : List Int
  n : Nat
def feed1 (r : List Int) (s : SS) (c : Int) : SS :=
  if (s.n + 1) % 64 = 0 then ⟨mixI r s.h (s.b.set (s.n % 64) c), s.b.set (s.n % 64) c, s.n + 1⟩ else ⟨s.h, s.b.set (s.n % 64) c, s.n + 1⟩
def feed (r : List Int) (s : SS) (ps : List Int) : SS := ps.foldl (feed1 r) s
theorem feed_append (r : List Int) (s : SS) (p q : List Int) : feed r s (p ++ q) = feed r (feed r s p) q := by simp [feed, List.foldl_append]
theorem feed1_n (r : List Int) (s : SS) (c : Int) : (feed1 r s c).n = s.n + 1 := by unfold feed1; split <;> rfl
theorem feed_n (r : List Int) (s : SS) (ps : List Int) : (feed r s ps).n = s.n + ps.length := by
  induction ps generalizing s with
  | nil => rfl
  | cons c q ih => show (feed r (feed1 r s c) q).n = _; rw [ih, feed1_n]; simp; omega
theorem feed1_b (r : List Int) (s : SS) (c : Int) : (feed1 r s c).b.length = s.b.length := by unfold feed1; split <;> simp
theorem feed_b (r : List Int) (s : SS) (ps : List Int) : (feed r s ps).b.length = s.b.length := by
  induction ps generalizing s with
  | nil => rfl
  | cons c q ih => show (feed r (feed1 r s c) q).b.length = _; rw [ih, feed1_b]
/-- Bytes that stay in one block. -/
theorem feed_chunk (r : List Int) : ∀ (ps : List Int) (s : SS), ps ≠ [] → s.n % 64 + ps.length ≤ 64 →
    feed r s ps = if (s.n + ps.length) % 64 = 0 then ⟨mixI r s.h (overI s.b (s.n % 64) ps), overI s.b (s.n % 64) ps, s.n + ps.length⟩ else ⟨s.h, overI s.b (s.n % 64) ps, s.n + ps.length⟩
  | [], _, h, _ => absurd rfl h
  | [c], s, _, _ => rfl
  | c :: d :: q, s, _, hl => by
    have h1 : feed1 r s c = ⟨s.h, s.b.set (s.n % 64) c, s.n + 1⟩ := by unfold feed1; rw [if_neg (by simp at hl; omega)]
    have hm : (s.n + 1) % 64 = s.n % 64 + 1 := by simp at hl; omega
    have ih := feed_chunk r (d :: q) ⟨s.h, s.b.set (s.n % 64) c, s.n + 1⟩ (by simp) (by simp at hl ⊢; omega)
    show feed r (feed1 r s c) (d :: q) = _
    rw [h1, ih]
    simp only [hm, List.length_cons, overI]
    rw [show s.n + 1 + (q.length + 1) = s.n + (q.length + 1 + 1) by omega]

set_option maxHeartbeats 2000000 in
theorem add_some (g : Nat) (r : List Int) (s : SS) (pb po cap : Nat) (ps : List Int) (w : World) (hs : St w g s.h r s.b s.n) (hn : s.n + ps.length < 4294967296)
    (hcap : ps.length ≤ cap) (hpg : pb ≠ g) (hc : ∀ i, i < ps.length → w.cell? ⟨pb, po + i, none⟩ = some (.int .u8 (ps.getD i 0))) :
    Calls Try.prog 20 #[.pointer (some ⟨g, 0, none⟩), .slice (some ⟨pb, po, none⟩) ps.length cap] w fun e w' =>
      e = .returned (.tuple #[]) ∧ St w' g (feed r s ps).h r (feed r s ps).b (feed r s ps).n ∧ But w.heap.size g w w' := by
  go_enter Try.func20, Try.ntmps20
  go_wp2_with fail
  go_loopw [1, 4] (fun v _ wr => ∃ (d d' : Nat), d ≤ ps.length ∧ (d < ps.length → d' = d) ∧ v = .slice (some ⟨pb, po + d', none⟩) (ps.length - d) (cap - d) ∧
      St wr g (feed r s (ps.take d)).h r (feed r s (ps.take d)).b (feed r s (ps.take d)).n ∧ But w.heap.size g w wr)
    (fun v _ _ => lenOf v)
  case atStart => exact ⟨0, 0, by omega, fun _ => rfl, rfl, hs, But.refl _ _ _⟩
  case round =>
    obtain ⟨d, d', hd, hd', rfl, hsr, hbr⟩ := hrel
    by_cases hlt : d < ps.length
    · obtain rfl := hd' hlt
      have hnn := feed_n r s (ps.take d')
      have hbl := hsr.bl
      generalize hS : feed r s (ps.take d') = S at *
      have hSn : S.n < 4294967296 := by rw [hnn]; simp; omega
      obtain ⟨n, hnS⟩ : ∃ n, n = S.n := ⟨_, rfl⟩
      rw [← hnS] at hsr hSn hnn
      obtain ⟨k, hk⟩ : ∃ k, k = n % 64 := ⟨_, rfl⟩
      have hk64 : k < 64 := by omega
      have hkI : (n : Int) % 64 = (k : Int) := by omega
      have HK := Lib.hid hk
      obtain ⟨m, hm⟩ : ∃ m, m = Nat.min (ps.length - d') (64 - k) := ⟨_, rfl⟩
      have ct := hsr.tot
      have cf := hsr.frozen 136
      have HM := Lib.hid hm
      have HNS := Lib.hid hnS
      have HSS := Lib.hid hS
      have HNN := Lib.hid hnn
      have hmn : m = Nat.min (ps.length - d') (64 - k) := hm
      have hm1 : 1 ≤ m := by rw [hm]; exact Nat.le_min.2 ⟨by omega, by omega⟩
      have hm2 : m ≤ ps.length - d' := by rw [hm]; exact Nat.min_le_left _ _
      have hm3 : m ≤ 64 - k := by rw [hm]; exact Nat.min_le_right _ _
      have HMN := Lib.hid hmn
      obtain ⟨ch, hch⟩ : ∃ ch, ch = (ps.drop d').take m := ⟨_, rfl⟩
      have hchl : ch.length = m := by rw [hch]; simp; omega
      have htk : ps.take (d' + m) = ps.take d' ++ ch := by rw [hch, List.take_add]
      have hfeed : feed r s (ps.take (d' + m)) = if (n + m) % 64 = 0 then ⟨mixI r S.h (overI S.b k ch), overI S.b k ch, n + m⟩ else ⟨S.h, overI S.b k ch, n + m⟩ := by
        rw [htk, feed_append, hS, feed_chunk r ch S (by intro h0; rw [h0] at hchl; simp at hchl; omega) (by rw [← hnS, ← hk, hchl]; omega), hchl, ← hnS, ← hk]
      have hsrc : ∀ j v, (ch.map (Value.int .u8))[j]? = some v → wr.cell? ((⟨pb, po + d', none⟩ : Addr).add j) = some v := by
        intro j v hv
        have hj : j < m := by have := (List.getElem?_eq_some_iff.1 hv).1; simpa [hchl] using this
        have hcj := hc (d' + j) (by omega)
        have hpl := block_lt_of_cell hcj
        rw [Addr.add_mid, show po + d' + j = po + (d' + j) by omega, World.cell?_of_block (w := w) (hbr.block pb hpl hpg), hcj, ← hv, List.getElem?_map, hch, List.getElem?_take_of_lt hj, List.getElem?_drop, getD_some (by omega)]
        rfl
      have hth := hsr.there (72 + k) m (by omega)
      have hfit : k + ch.length ≤ 64 := by omega
      have HCH := Lib.hid hchl
      have HF := Lib.hid hfeed
      have HSRC := Lib.hid hsrc
      clear hk hm hnS hS hnn hmn hch hchl htk hfeed hsrc
      have kI : (k : Int) ≤ 64 := by omega
      have hgl := hsr.lt
      by_cases hz : (n + m) % 64 = 0
      all_goals
        go_wp2_with fail
        refine wp_region_quiet_tail 10 (by kernel_rfl) (by kernel_rfl) ?_
        simp only [List.take_succ_cons, List.take_zero, List.drop_succ_cons, List.drop_zero]
        repeat (go_big_quiet_step (fail))
        refine wpQuiet_nil ?_
        intro nq
        refine wpList_copy_cells rfl (.tmp 16) (.tmp 17) 22 22 rfl 5 Try.underlying22 (by kernel_rfl) g (72 + k) (64 - k) (64 - k) ⟨pb, po + d', none⟩ (ps.length - d') (cap - d') m rfl rfl (ch.map (Value.int .u8)) (by simpa using HCH.out) HMN.out HSRC.out hth (ones_int _ _) ?_
        refine wpList_world fun w2 hw2 => ?_
        have hs2 : St w2 g S.h r (overI S.b k ch) n := by rw [hw2]; exact (hsr.drewN nq).setBlock k ch hfit
        have hb2 : But w.heap.size g w w2 := by rw [hw2]; exact (hbr.drewN nq).setCells (b := g) (.inr rfl) _ _
        clear hw2 ct cf
        have ct2 := hs2.tot
        have cf2 := hs2.frozen 136
        have hs3 := hs2.setTot ((n : Int) + m)
        have hb3 := hb2.setCell (p := ⟨g, 136, none⟩) (.inr rfl) (.int .u64 ((n : Int) + m))
      · have hz' : (((n : Int) + (m : Int)) % 64 == 0) = true := by rw [beq_iff_eq]; omega
        by_cases hcm : m = cap - d'
        · have hrest : ps.length - d' = m := by omega
          have hge : cap - d' ≤ m := by omega
          have HCM := Lib.hid hcm; clear hcm
          have HRE := Lib.hid hrest; clear hrest
          go_wp2_with fail
          refine (mix_any g _ r _ _ _ hs3).mono ?_; rintro e w4 ⟨rfl, hs4, hb4⟩
          go_wp2_with fail
          go_roundw
          case rel => exact ⟨d' + m, d', by omega, fun _ => by omega, by simp only [Nat.sub_sub]; congr 1; omega, by rw [HF.out, if_pos hz]; simp only [Int.natCast_add]; exact hs4, hb3.trans (hb4.mono hb3.size)⟩
          case measure => simp [lenOf]; omega
        · have hcm' : m < cap - d' := by omega
          clear hcm
          go_wp2_with fail
          refine (mix_any g _ r _ _ _ hs3).mono ?_; rintro e w4 ⟨rfl, hs4, hb4⟩
          go_wp2_with fail
          go_roundw
          case rel => exact ⟨d' + m, d' + m, by omega, fun _ => by omega, by simp only [Nat.sub_sub, Nat.add_assoc], by rw [HF.out, if_pos hz]; simp only [Int.natCast_add]; exact hs4, hb3.trans (hb4.mono hb3.size)⟩
          case measure => simp [lenOf]; omega
      · have hz' : (((n : Int) + (m : Int)) % 64 == 0) = false := by rw [beq_eq_false_iff_ne]; omega
        by_cases hcm : m = cap - d'
        · have hrest : ps.length - d' = m := by omega
          have hge : cap - d' ≤ m := by omega
          have HCM := Lib.hid hcm; clear hcm
          have HRE := Lib.hid hrest; clear hrest
          go_wp2_with fail
          go_roundw
          case rel => exact ⟨d' + m, d', by omega, fun _ => by omega, by simp only [Nat.sub_sub]; congr 1; omega, by rw [HF.out, if_neg hz]; simp only [Int.natCast_add]; exact hs3, hb3⟩
          case measure => simp [lenOf]; omega
        · have hcm' : m < cap - d' := by omega
          clear hcm
          go_wp2_with fail
          go_roundw
          case rel => exact ⟨d' + m, d' + m, by omega, fun _ => by omega, by simp only [Nat.sub_sub, Nat.add_assoc], by rw [HF.out, if_neg hz]; simp only [Int.natCast_add]; exact hs3, hb3⟩
          case measure => simp [lenOf]; omega
    · have hde : d = ps.length := by omega
      subst hde
      go_wp2
      go_end0
      rw [List.take_of_length_le (Nat.le_refl _)] at hsr
      exact ⟨rfl, hsr, hbr⟩

/-- The same, the length and the cells as a caller has them. -/
theorem add_cells (g : Nat) (r : List Int) (s : SS) (pb po cap L : Nat) (ps : List Int) (hL : ps.length = L) (w : World) (hs : St w g s.h r s.b s.n) (hn : s.n + L < 4294967296)
    (hcap : L ≤ cap) (hpg : pb ≠ g) (hc : w.rangeAt pb po (ps.map (Value.int .u8))) :
    Calls Try.prog 20 #[.pointer (some ⟨g, 0, none⟩), .slice (some ⟨pb, po, none⟩) L cap] w fun e w' =>
      e = .returned (.tuple #[]) ∧ St w' g (feed r s ps).h r (feed r s ps).b (feed r s ps).n ∧ But w.heap.size g w w' := by
  subst hL
  exact add_some g r s pb po cap ps w hs hn hcap hpg fun i hi => hc i _ (by rw [List.getElem?_map, getD_some hi]; rfl)
/-- A call at a world that gets a name. -/
theorem calls_world {P : Program} {f : FuncId} {args : Array Value} {W : World} {R : Ending → World → Prop} (h : ∀ w', w' = W → Calls P f args w' R) : Calls P f args W R := h W rfl

set_option maxHeartbeats 400000 in
theorem add_none (g : Nat) (x : Option Addr) (c : Nat) (w : World) :
    Calls Try.prog 20 #[.pointer (some ⟨g, 0, none⟩), .slice x 0 c] w fun e w' => e = .returned (.tuple #[]) ∧ w = w' := by
  go_enter Try.func20, Try.ntmps20
  go_wp2_with fail
  refine wp_loop_rounds 1 ?_
  rw [rounds_succ]
  go_wp2_with fail
  go_end0
  exact ⟨rfl, rfl⟩
end Go.Proofs.Ytigpccfglicjeaa
