/- Package simfs: 'Crash'. -/
import Derived.Test.YtpfbiijcmmkjlaaFsR
namespace Go.Proofs.Ytpfbiijcmmkjlaa
open Go.RowKit Go.Maps Go.WideMaps

/-- The directory that was sure with the first changes since. -/
def preD (A : FsA) (i : Nat) : DataW Unit := (A.since.take i).foldl Chg.ap A.sure
def leftD (A : FsA) (dirs : Int) : DataW Unit := preD A (withinOf dirs A.since.length).toNat
theorem preD_succ (A : FsA) (i : Nat) (c : Chg) (h : A.since[i]? = some c) : preD A (i + 1) = c.ap (preD A i) := by
  unfold preD
  obtain ⟨hi, rfl⟩ := List.getElem?_eq_some_iff.1 h
  rw [List.take_succ_eq_append_getElem hi, List.foldl_append]; rfl
def fileOf (A : FsA) (L : DataW Unit) (s : List UInt8) : Fil := ((dget L ⟨s.toArray⟩).bind A.file).getD ⟨0, [], 0⟩
/-- One file of what is left. -/
def crashStep (A : FsA) (L : DataW Unit) (tails : List Int) (X : FsA) (sb : List UInt8 × Nat) : FsA :=
  { X with file := fun k => if k = sb.2 then some (crashedF (fileOf A L sb.1) (tails.getD (fileOf A L sb.1).num.toNat 0) X.created) else X.file k, now := X.now.put (.string sb.1) (.lit (.int .i64 sb.2)), created := X.created + 1 }
def crashX (A : FsA) (L : DataW Unit) (tails : List Int) (l : List (List UInt8 × Nat)) : FsA := l.foldl (crashStep A L tails) (newA A.room)
theorem crashX_base (A : FsA) (L : DataW Unit) (tails : List Int) : ∀ (l : List (List UInt8 × Nat)) (X : FsA), X.count = 0 ∧ X.armed = false ∧ X.left = 0 ∧ X.plan = [] ∧ X.since = [] ∧ X.room = A.room →
    (l.foldl (crashStep A L tails) X).count = 0 ∧ (l.foldl (crashStep A L tails) X).armed = false ∧ (l.foldl (crashStep A L tails) X).left = 0 ∧ (l.foldl (crashStep A L tails) X).plan = [] ∧ (l.foldl (crashStep A L tails) X).since = [] ∧ (l.foldl (crashStep A L tails) X).room = A.room
  | [], _X, h => h
  | _p :: l, _X, h => crashX_base A L tails l _ h
/-- What a crash leaves. -/
def crashA (A : FsA) (dirs : Int) (tails : List Int) (bs : List Nat) : FsA :=
  { crashX A (leftD A dirs) tails ((namesD (leftD A dirs)).zip bs) with sure := (crashX A (leftD A dirs) tails ((namesD (leftD A dirs)).zip bs)).now }
/-- Of what a crash is asked. -/
structure Crashy (A : FsA) : Prop where
  len : A.since.length < 1000
  size : ∀ i, Maps.size (preD A i) < 1000
  ok : ∀ i, OkD A.file (preD A i)
  short : Short A
  num : ∀ b f, A.file b = some f → 0 ≤ f.num ∧ f.num < 4611686018427387904
  room : A.room < 4611686018427387904

/-- A name of a directory is a file's. -/
theorem name_file {fl : Nat → Option Fil} {L : DataW Unit} (h : OkD fl L) {s : List UInt8} (hs : s ∈ namesD L) : ∃ b f, dget L ⟨s.toArray⟩ = some b ∧ fl b = some f ∧ s.length ≤ 20 := by
  obtain ⟨es, rfl, hp⟩ := h
  unfold namesD at hs
  rw [List.mem_mergeSort] at hs
  obtain ⟨p, hpm, hps⟩ := List.mem_map.1 hs
  obtain ⟨s', _, _, h1, h2, _, _⟩ := hp p hpm
  have hse : s = s'.data.toList := by rw [← hps, h1]; rfl
  have hkey : keyL ⟨s.toArray⟩ = Lit.string s := by unfold keyL; simp
  cases hf : es.find? (fun p => p.1.sameKey (keyL ⟨s.toArray⟩)) with
  | none =>
    have := List.find?_eq_none.1 hf p hpm
    rw [hkey, h1] at this
    simp [keyL, Lit.sameKey, hse] at this
  | some q =>
    obtain ⟨_, b, f, _, _, h3, h4⟩ := hp q (List.mem_of_find?_eq_some hf)
    refine ⟨b, f, ?_, h4, by rw [hse]; simpa using h2⟩
    unfold dget DataW.atKey
    simp [hf, h3]

set_option maxRecDepth 100000 in
set_option maxHeartbeats 8000000 in
theorem crash_any (g : Nat) (S : Nat → Prop) (A : FsA) (dirs : Int) (v : Value) (tails : List Int) (w : World) (h : Fs w g S A) (hc : Crashy A) (hv : Ints w v tails) (htl : tails.length < 4611686018427387904) :
    Calls Try.prog 11 #[.pointer (some ⟨g, 0, none⟩), .int .i64 dirs, v] w fun e w' => ∃ g' bs, e = .returned (.pointer (some ⟨g', 0, none⟩)) ∧ bs.length = (namesD (leftD A dirs)).length ∧ bs.Nodup ∧ (∀ b ∈ bs, w.heap.size ≤ b) ∧
      Fs w' g' (newB w w') (crashA A dirs tails bs) ∧ Below w.heap.size w w' := by
  obtain ⟨pv, bn, bs, sv, vs, dv, hM⟩ := h
  obtain ⟨va, vc, rfl⟩ := hv.slice
  have HV := Lib.hid hv
  have HC := Lib.hid hc
  have HM := Lib.hid hM
  have HTL := Lib.hid htl
  have c7 := hM.row.cell (i := 7) rfl
  clear hv hM hc htl
  go_enter Try.func11, Try.ntmps11
  go_wp2_with fail
  refine (mapsClone_any bs A.sure w HM.out.sure).mono ?_; rintro e w1 ⟨rfl, hd1, hB1⟩
  have HD1 := Lib.hid hd1
  have HB1 := Lib.hid hB1
  obtain ⟨sa, sc, hsv⟩ := own_slice HM.out.since
  have hrow1 := Below.blk hB1 HM.out.row.lt HM.out.row
  have c8 := hrow1.cell (i := 8) rfl
  rw [hsv] at c8
  have hvl : vs.length = A.since.length := HM.out.cloL
  have hvb : vs.length < 1000 := by have := HC.out.len; omega
  obtain ⟨k, hk⟩ : ∃ k : Nat, k = (withinOf dirs A.since.length).toNat := ⟨_, rfl⟩
  have hkw : withinOf dirs (vs.length : Int) = (k : Int) := by rw [hk, hvl]; unfold withinOf; omega
  have hkl : k ≤ vs.length := by unfold withinOf at hkw; omega
  have HWI := Lib.hid fun W => within_any dirs (vs.length : Int) W
  rw [hkw] at HWI
  have HK := Lib.hid hk
  have HSV := Lib.hid hsv
  have HVL := Lib.hid hvl
  clear hd1 hB1 hrow1 hk hkw hvl hsv c7
  have hkl' : (k : Int) ≤ vs.length := by omega
  -- the kept changes' cells
  have HVS : Hid ((sa = none ∧ k = 0 ∧ sc = 0) ∨ ∃ x, sa = some ⟨x, 0, none⟩ ∧ vs.length ≤ sc ∧ ∀ (W : World), Below w.heap.size w W → ∀ i u, vs[i]? = some u → W.cell? ⟨x, i, none⟩ = some u) := by
    have hsin := HM.out.since
    rw [HSV.out] at hsin
    rcases hsin.2 with ⟨hq, h0⟩ | ⟨x, cap, cur, hq, _, hx, hcap, _, hcs, hxs⟩
    · injection hq with h1 h2 h3; exact .inl ⟨h1, by omega, h3⟩
    · injection hq with h1 h2 h3
      refine .inr ⟨x, h1, by omega, fun W hb i u hu => ?_⟩
      rw [World.cell?_of_block (w := w) (a := ⟨x, i, none⟩) (hb.block x (heap_lt hx)), cell_of_row w x i cur 80 (0, 0) hx, ← Array.getElem?_toList]
      rw [← hxs, List.getElem?_take] at hu
      split at hu
      · exact hu
      · cases hu
  have hks : k ≤ sc := by
    rcases HVS.out with ⟨_, h1, h2⟩ | ⟨x, _, h2, _⟩
    · omega
    · omega
  have hks' : (k : Int) ≤ (sc : Int) := by omega
  go_wp2_with fail
  go_quiet ((go_at_call 34; (with_reducible exact quiet_left (HWI.out _))))
  go_wp2_with fail
  have hB1q : Below w.heap.size w (w1.drewN nq) := Below.drewN HB1.out nq
  have hd1q : Dir (w1.drewN nq) w.heap.size (preD A 0) := HD1.out
  clear c8 hks hks'
  go_loopw [9, 31] (fun _ s31 wr => ∃ i : Nat, i ≤ k ∧ s31 = .int .i64 i ∧ Dir wr w.heap.size (preD A i) ∧ Below w.heap.size w wr)
    (fun _ s31 _ => k - (intOf s31).toNat)
  case atStart => exact ⟨0, by omega, rfl, hd1q, hB1q⟩
  case round =>
    clear hB1q hd1q
    obtain ⟨i, hi, rfl, hd, hB⟩ := hrel
    by_cases hlt : i < k
    · rcases HVS.out with ⟨_, h1, _⟩ | ⟨x, hsa, hvc, hcell⟩
      · omega
      · have hiv : i < vs.length := by omega
        have hia : i < A.since.length := by have := HVL.out; omega
        obtain ⟨cv, hcv, hclo⟩ := HM.out.clo i A.since[i] (List.getElem?_eq_getElem hia)
        have c := hcell wr hB i cv hcv
        have hclo' : Clo wr S cv A.since[i] := hclo.to (fun _ k => k) fun k' cs hk' _ => hB.block k' (hk'.elim Blk.lt Blk.lt)
        obtain ⟨fn, cap, rfl, heg, hcall⟩ := clo_call hclo' hd (by have := HC.out.size i; omega)
        have HP : Hid (A.since[i].ap (preD A i) = preD A (i + 1)) := (preD_succ A i _ (List.getElem?_eq_getElem hia)).symm
        have HCALL := Lib.hid hcall
        have HB := Lib.hid hB
        have hc0 : wr.cell? ⟨x, 0 + i, none⟩ = some (.func (.func fn) #[] cap) := by rw [Nat.zero_add]; exact c
        subst hsa
        have li : (i : Int) < k := by omega
        clear hcell hcv hclo hclo' hcall hd hB hiv
        go_wp2_with fail
        refine HCALL.out.mono ?_; rintro e w2 ⟨rfl, hd2, hg2⟩
        have hB2 : Below w.heap.size w w2 := HB.out.grown hg2 HB.out.size fun j hj => by cases hj; exact Nat.le_refl _
        rw [HP.out] at hd2
        have HD2 := Lib.hid hd2
        have HB2 := Lib.hid hB2
        clear hd2 hg2 hB2 heg
        go_wp2_with fail
        go_roundw
        case rel => exact ⟨i + 1, by omega, by go_num, HD2.out, HB2.out⟩
        case measure => simp [intOf]; omega
    · obtain rfl : i = k := by omega
      have HD := Lib.hid hd
      have HB := Lib.hid hB
      have HLD : Hid (preD A i = leftD A dirs) := by show _ = _; unfold leftD; rw [← HK.out]
      have hrowr := Below.blk hB HM.out.row.lt HM.out.row
      have c4 := hrowr.cell (i := 4) rfl
      have hmm := @run_makeMap Try.prog
      clear hd hB hrowr
      rw [HLD.out] at HD
      go_wp2_with fail
      refine calls_world fun wm hwm => ?_
      have hBm : Below wr.heap.size wr wm := by rw [hwm]; exact ((Below.refl _ _).alloc (Nat.le_refl _) _).alloc (by simp) _
      have hmk : Mk wm (wr.heap.size + 1) (newB w wm) (newA A.room) wr.heap.size (fun _ => .slice none 0 0) := by
        have hlt : wm.heap.size = wr.heap.size + 1 + 1 := by rw [hwm]; simp
        have hsz := HB.out.size
        refine ⟨?_, ⟨by omega, by omega⟩, ?_, ⟨by omega, by omega⟩, (fun b f h => by cases h), (fun b b' _ h => by cases h)⟩
        · have := Blk.new (wr.alloc (.map #[] 0)) 61 [.int .i64 0, .bool false, .int .i64 0, .slice none 0 0, .int .i64 A.room, .int .i64 0, .map (some wr.heap.size), .map none, .slice none 0 0]
          rw [World.size_alloc] at this
          rw [hwm]; exact this
        · rw [hwm]; exact Dir.of ((World.ownsMap_made wr _ _ _).alloc _)
      have hdm : Dir wm w.heap.size (leftD A dirs) := HD.out.to (hBm.block _ HD.out.lt)
      have HBM := Lib.hid (HB.out.trans (hBm.mono HB.out.size))
      have HMK := Lib.hid hmk
      have HDM := Lib.hid hdm
      have HSZM : Hid (wr.heap.size < wm.heap.size ∧ wr.heap.size + 1 < wm.heap.size ∧ w.heap.size < wr.heap.size) := ⟨hmk.now.lt, hmk.row.lt, HD.out.lt⟩
      clear hwm hBm hmk hdm c4 hmm
      refine (names_any w.heap.size (leftD A dirs) wm HDM.out (by rw [← HLD.out]; exact HC.out.size _)).mono ?_; rintro e wn ⟨nv, rfl, hno, hBn⟩
      obtain ⟨na, nc, rfl⟩ := own_slice hno
      obtain ⟨N, hN⟩ : ∃ N, namesD (leftD A dirs) = N := ⟨_, rfl⟩
      rw [hN] at hno
      have HN := Lib.hid hN
      have HNO := Lib.hid hno
      have HBN := Lib.hid hBn
      have HMKN := Lib.hid (HMK.out.to (w' := wn) (T := newB w wn) (fun k hk => ⟨hk.1, Nat.lt_of_lt_of_le hk.2 hBn.size⟩) hBn.block)
      have HNL : Hid (N.length < 1000) := by
        show _ < _
        rw [← hN, namesD_length HDM.out, ← HLD.out]; exact HC.out.size _
      clear hno hBn
      rw [hN]
      clear hN
      go_wp2_with fail
      obtain ⟨BN, hBN⟩ : ∃ BN, wr.heap.size = BN := ⟨_, rfl⟩
      rw [hBN] at HMKN HSZM ⊢
      have HBW : Hid (Below w.heap.size w wn) := HBM.out.trans (HBN.out.mono HBM.out.size)
      have HLIM : Hid (w.heap.size < BN ∧ BN + 1 < wn.heap.size) := ⟨HSZM.out.2.2, Nat.lt_of_lt_of_le HSZM.out.2.1 HBN.out.size⟩
      have HLN : Hid (Dir wn w.heap.size (leftD A dirs)) := HDM.out.to (HBN.out.block _ HDM.out.lt)
      have HOKL : Hid (OkD A.file (leftD A dirs)) := by show OkD _ _; rw [← HLD.out]; exact HC.out.ok _
      clear hBN
      obtain ⟨L, hL⟩ : ∃ L, leftD A dirs = L := ⟨_, rfl⟩
      rw [hL] at HLN HOKL HN
      have HLL := Lib.hid hL
      clear hL
      go_loopw [12, 49] (fun _ s49 wr => ∃ (i : Nat) (l : List Nat) (X : FsA) (dx : Nat → Value), i ≤ N.length ∧ s49 = .int .i64 i ∧ l.length = i ∧ (l.Nodup ∧ ∀ b ∈ l, b < wr.heap.size) ∧ (∀ b ∈ l, w.heap.size ≤ b) ∧ X = crashX A L tails ((N.take i).zip l) ∧ X.created = i ∧ X.room = A.room ∧
          Mk wr (BN + 1) (newB w wr) X BN dx ∧ Maps.size X.now ≤ i ∧ (∀ k, k < wn.heap.size → k ≠ BN → k ≠ BN + 1 → wr.heap[k]? = wn.heap[k]?) ∧ Below w.heap.size w wr ∧ wn.heap.size ≤ wr.heap.size)
        (fun _ s49 _ => N.length - (intOf s49).toNat)
      case atStart => exact ⟨0, [], newA A.room, fun _ => .slice none 0 0, by omega, rfl, rfl, ⟨List.nodup_nil, fun b hb => (by cases hb)⟩, (fun b hb => by cases hb), by rw [List.take_zero]; rfl, rfl, rfl, HMKN.out, Nat.le_refl 0, fun _ _ _ _ => rfl, HBW.out, Nat.le_refl _⟩
      case round =>
        obtain ⟨j, l, X, dx, hj, rfl, hll, hnd, hlb, hX, hXc, hXr, hmk, hXs, hkeep, hB, hzz⟩ := hrel
        have HX := Lib.hid hX
        have HXC := Lib.hid hXc
        have HXS := Lib.hid hXs
        have HXR := Lib.hid hXr
        have HMK2 := Lib.hid hmk
        have HLB := Lib.hid hlb
        have HND := Lib.hid hnd
        have HLLN := Lib.hid hll
        have HKEEP := Lib.hid hkeep
        have HB2 := Lib.hid hB
        have HZZ := Lib.hid hzz
        clear hX hXc hXr hmk hXs hkeep hlb hll hzz hB hnd
        by_cases hlt : j < N.length
        · obtain ⟨s, hs⟩ : ∃ s, N[j] = s := ⟨_, rfl⟩
          have hsm : s ∈ namesD L := by rw [HN.out, ← hs]; exact List.getElem_mem _
          obtain ⟨fb, f, hget, hfb, hsl⟩ := name_file HOKL.out hsm
          have hgetL := hget
          obtain ⟨hfa, hfS, hfd⟩ := HM.out.file fb f hfb
          have hshort := HC.out.short fb f hfb
          have hnum := HC.out.num fb f hfb
          have hfn : fb < w.heap.size := hfa.1.lt
          -- the world of the round's head
          have hsame2 : ∀ W, Below wr.heap.size wr W → Below w.heap.size w W := fun W hb => HB2.out.trans (hb.mono HB2.out.size)
          have hfaW : ∀ W, Below wr.heap.size wr W → FileAt W fb (dv fb) f := fun W hb => hfa.to ((hsame2 W hb).block fb hfn) fun k cur e _ => (hsame2 W hb).block k (heap_lt e)
          have hLW : ∀ W, Below wr.heap.size wr W → Dir W w.heap.size L := fun W hb => HLN.out.to ((hb.block _ (by have := HZZ.out; have := HLN.out.lt; omega)).trans (HKEEP.out _ HLN.out.lt (by have := HLIM.out; omega) (by have := HLIM.out; omega)))
          obtain ⟨sB, hsB⟩ : ∃ sB : ByteArray, sB = ⟨s.toArray⟩ := ⟨_, rfl⟩
          have hsBs : sB.size ≤ 1000 := by rw [hsB]; show s.toArray.size ≤ 1000; simp; omega
          have hkeyB : keyL sB = .string s := by rw [hsB]; unfold keyL; simp
          have hlook : ∀ W, Below wr.heap.size wr W → (Instr.lookup 54 (.map (some w.heap.size)) (.string sB) false).run Try.prog W = .ok (.pointer (some ⟨fb, 0, none⟩)) W := fun W hb => by
            have := ((hLW W hb).look (s := sB) (by unfold maxLen; omega)).1
            rw [hsB, hget] at this; rw [hsB]; exact this
          have hrowW : ∀ W, Below wr.heap.size wr W → Blk W (BN + 1) 61 [.int .i64 0, .bool false, .int .i64 0, .slice none 0 0, .int .i64 X.room, .int .i64 X.created, .map (some BN), .map none, .slice none 0 0] := fun W hb => Blk.of (hb.block _ HMK2.out.row.lt) HMK2.out.row
          have hnowW : ∀ W, Below wr.heap.size wr W → Dir W BN X.now := fun W hb => HMK2.out.now.to (hb.block _ HMK2.out.now.lt)
          obtain ⟨fnum, hfnum⟩ : ∃ fnum : Nat, f.num = (fnum : Int) := ⟨f.num.toNat, by omega⟩
          obtain ⟨tl, htlv⟩ : ∃ tl, tl = tails.getD fnum 0 := ⟨_, rfl⟩
          have hatW : ∀ W, Below wr.heap.size wr W → Calls Try.prog 37 #[.slice va tails.length vc, .int .i64 (fnum : Int)] W fun e w' => e = .returned (.int .i64 tl) ∧ W = w' := fun W hb => by
            rw [htlv]; exact at_any _ tails fnum W (HV.out.below (hsame2 W hb)) (by omega) HTL.out
          have hcrW : ∀ W, Below wr.heap.size wr W → Calls Try.prog 36 #[.pointer (some ⟨fb, 0, none⟩), .int .i64 tl, .int .i64 (j : Int)] W fun e w' => ∃ nb d', e = .returned (.pointer (some ⟨nb, 0, none⟩)) ∧ wr.heap.size ≤ nb ∧
              FileAt w' nb d' (crashedF f tl j) ∧ (∀ k, d'.ownBlock = some k → wr.heap.size ≤ k) ∧ Below wr.heap.size wr w' := fun W hb =>
            (crashed_any fb (dv fb) f tl j W (hfaW W hb) hshort.1 hshort.2).mono fun e w' ⟨nb, d', h1, h2, h3, h4, h5⟩ => ⟨nb, d', h1, Nat.le_trans hb.size h2, h3, fun k hk => Nat.le_trans hb.size (h4 k hk), hb.trans (h5.mono hb.size)⟩
          -- the name's cell
          obtain ⟨x, hna, hcell⟩ : ∃ x, na = some ⟨x, 0, none⟩ ∧ wr.cell? ⟨x, j, none⟩ = some (.string sB) := by
            have hno := HNO.out
            rcases hno.2 with ⟨_, h0⟩ | ⟨x, cap, cur, hq, hge, hx, hcap, _, hcs, hxs⟩
            · omega
            · injection hq with h1 h2 h3
              refine ⟨x, h1, ?_⟩
              have hxlt := heap_lt hx
              have hxN : x ≠ BN ∧ x ≠ BN + 1 := ⟨by have := HSZM.out; omega, by have := HSZM.out; omega⟩
              have hk2 := HKEEP.out x hxlt hxN.1 hxN.2
              rw [World.cell?_of_block (w := wn) (a := ⟨x, j, none⟩) hk2, cell_of_row wn x j cur 9 (0, 0) hx, ← Array.getElem?_toList]
              have h9 : (N.map Go.Proofs.encStr)[j]? = some (.string sB) := by
                rw [List.getElem?_map, List.getElem?_eq_getElem hlt, hs, hsB]; rfl
              rw [← hxs, List.getElem?_take_of_lt (by omega)] at h9
              exact h9
          have hc0 : wr.cell? ⟨x, 0 + j, none⟩ = some (.string sB) := by rw [Nat.zero_add]; exact hcell
          have HGET := Lib.hid hget
          have HTLV := Lib.hid htlv
          have HFB := Lib.hid hfb
          have HSB := Lib.hid hsB
          have HKB := Lib.hid hkeyB
          have HFN := Lib.hid hfnum
          have HAT := Lib.hid hatW
          have HCR := Lib.hid hcrW
          have HNOW := Lib.hid hnowW
          have HS := Lib.hid hs
          have hS : ∀ W, Below wr.heap.size wr W → (Below wr.heap.size wr W ∧ W.cell? ⟨BN + 1, 6, none⟩ = some (.map (some BN)) ∧ W.cell? ⟨BN + 1, 5, none⟩ = some (.int .i64 (j : Int)) ∧
              (Instr.lookup 54 (.map (some w.heap.size)) (.string sB) false).run Try.prog W = .ok (.pointer (some ⟨fb, 0, none⟩)) W ∧ W.cell? ⟨fb, 0, none⟩ = some (.int .i64 (fnum : Int))) := fun W hb =>
            ⟨hb, (hrowW W hb).cell (i := 6) rfl, by have := (hrowW W hb).cell (i := 5) rfl; rw [HXC.out] at this; exact this, hlook W hb, by have := (hfaW W hb).1.cell (i := 0) rfl; rw [hfnum] at this; exact this⟩
          have HZB : Hid (Maps.size X.now < 1000000) := by show _ < _; have := HXS.out; have := HNL.out; omega
          have HPUT : Hid (∀ W nb, Below wr.heap.size wr W → ∃ w4, (Instr.mapUpdate 54 (.map (some BN)) (.string sB) (.pointer (some ⟨nb, 0, none⟩))).run Try.prog W = .ok () w4 ∧ Dir w4 BN (X.now.put (keyL sB) (.lit (.int .i64 (nb : Nat)))) ∧ W.grownBy w4 (some BN)) := fun W nb hb => by
            obtain ⟨w', hrun, r1, r2⟩ := World.ownsMap.update (HNOW.out W hb) law9 Try.underlying54 (by have := HZB.out; unfold maxLen; omega) (key9 (s := sB) (by unfold maxLen; omega)) (ptrElem_of (some nb))
            exact ⟨w', hrun, Dir.of r1, r2⟩
          have HSS := Lib.hid hS
          have HS4 : Hid (∀ W3 W, Below wr.heap.size wr W3 → W3.grownBy W (some BN) → W.cell? ⟨BN + 1, 6, none⟩ = some (.map (some BN)) ∧ W.cell? ⟨BN + 1, 5, none⟩ = some (.int .i64 (j : Int)) ∧
              (Instr.lookup 54 (.map (some w.heap.size)) (.string sB) false).run Try.prog W = .ok (.pointer (some ⟨fb, 0, none⟩)) W ∧ W.cell? ⟨fb, 0, none⟩ = some (.int .i64 (fnum : Int))) := fun W3 W hb hg => by
            have hlim := HLIM.out
            have hmk := HMK2.out.row.lt
            have hh := hb.size
            have hne : ∀ k, k < wr.heap.size → k ≠ BN → W.heap[k]? = W3.heap[k]? := fun k hk hk' => hg.block k (by omega) (fun e => hk' (Option.some.inj e))
            have hfn' : fb < wr.heap.size := by omega
            obtain ⟨_, h1, h2, h3, h4⟩ := hS W3 hb
            refine ⟨by rw [World.cell?_of_block (w := W3) (hne _ hmk (by simp))]; exact h1, by rw [World.cell?_of_block (w := W3) (hne _ hmk (by simp))]; exact h2, ?_, by rw [World.cell?_of_block (w := W3) (hne _ hfn' (by show fb ≠ BN; omega))]; exact h4⟩
            have hD : Dir W w.heap.size L := (hLW W3 hb).to (hne _ (by omega) (by omega))
            have := (hD.look (s := sB) (by unfold maxLen; omega)).1
            rw [hsB, hgetL] at this; rw [hsB]; exact this
          have hSd := hS wr.drew ⟨rfl, rfl, rfl, Nat.le_refl _, fun _ _ => rfl⟩
          subst hna
          have lj : (j : Int) < N.length := by omega
          clear hgetL htlv hget hfb hsB hkeyB hfnum hatW hcrW hnowW hs hS hlook hrowW hLW hfaW hsame2 hfa hfS hfd hsm hshort hnum
          go_wp2_with fail
          obtain ⟨hSd1, hSd2, hSd3, hSd4, hSd5⟩ := hSd
          go_region_held3 (fun W => W.cell? ⟨BN + 1, 6, none⟩ = some (.map (some BN)) ∧ W.cell? ⟨BN + 1, 5, none⟩ = some (.int .i64 (j : Int)) ∧
              (Instr.lookup 54 (.map (some w.heap.size)) (.string sB) false).run Try.prog W = .ok (.pointer (some ⟨fb, 0, none⟩)) W ∧ W.cell? ⟨fb, 0, none⟩ = some (.int .i64 (fnum : Int)))
            (first
              | exact ⟨hSd2, hSd3, hSd4, hSd5⟩
              | exact hS3
              | exact hS4
              | go_keep)
            ((first
              | (go_simp; go_at_call 37; (with_reducible refine (HAT.out _ (by assumption)).mono ?_); rintro e w' ⟨rfl, rfl⟩; simp only [])
              | (go_simp; go_at_call 36; (with_reducible refine (HCR.out _ (by assumption)).mono ?_); rintro e w3 ⟨nb, d', rfl, hnb, hfa3, hdk3, hb3⟩; obtain ⟨w4, hrun4, hd4, hg4⟩ := HPUT.out w3 nb hb3; have hS3 := (HSS.out w3 hb3).2; have hS4 := HS4.out w3 w4 hb3 hg4; simp only [])))
          all_goals
            have hz34 : w3.heap.size ≤ w4.heap.size := hg4.size
            have hz3 : wr.heap.size ≤ w3.heap.size := hb3.size
            have mk3 := HMK2.out.addFile (T := newB w w3) hb3 hfa3 hnb hdk3 (fun k hk => ⟨hk.1, Nat.lt_of_lt_of_le hk.2 hz3⟩) (fun k h1 h2 => ⟨Nat.le_trans HB2.out.size h1, h2⟩)
            have mk4 := mk3.turn hg4 hd4
            have f5 := mk4.row.frozen 5
            have hset := mk4.row.set 5 (.int .i64 ((j : Int) + 1))
            have hso : ∀ k, k ≠ BN + 1 → (w4.setCell ⟨BN + 1, 5, none⟩ (.int .i64 ((j : Int) + 1))).heap[k]? = w4.heap[k]? := fun k hk => heap_setCell_other w4 ⟨BN + 1, 5, none⟩ k _ hk
            have hszf : (w4.setCell ⟨BN + 1, 5, none⟩ (.int .i64 ((j : Int) + 1))).heap.size = w4.heap.size := by simp [World.setCell]
            have mk5 := mk4.head (w' := w4.setCell ⟨BN + 1, 5, none⟩ (.int .i64 ((j : Int) + 1))) hso (cr := (j : Int) + 1) hset
            have HMK5 : Hid (Mk (w4.setCell ⟨BN + 1, 5, none⟩ (.int .i64 ((j : Int) + 1))) (BN + 1) (newB w (w4.setCell ⟨BN + 1, 5, none⟩ (.int .i64 ((j : Int) + 1)))) { X with file := fun k => if k = nb then some (crashedF f tl j) else X.file k, now := X.now.put (keyL sB) (.lit (.int .i64 (nb : Nat))), created := (j : Int) + 1 } BN (fun k => if k = nb then d' else dx k)) :=
              mk5.to (fun k hk => ⟨hk.1, by rw [hszf]; exact Nat.lt_of_lt_of_le hk.2 hz34⟩) fun _ _ => rfl
            have hB3 : Below w.heap.size w w3 := HB2.out.trans (hb3.mono HB2.out.size)
            have hB4 : Below w.heap.size w w4 := hB3.grown hg4 hB3.size fun x hx => by cases hx; have := HLIM.out; omega
            have HB5 : Hid (Below w.heap.size w (w4.setCell ⟨BN + 1, 5, none⟩ (.int .i64 ((j : Int) + 1)))) := hB4.setCell (p := ⟨BN + 1, 5, none⟩) (by show _ ≤ BN + 1; have := HLIM.out; omega) _
            have HKP5 : Hid (∀ k, k < wn.heap.size → k ≠ BN → k ≠ BN + 1 → (w4.setCell ⟨BN + 1, 5, none⟩ (.int .i64 ((j : Int) + 1))).heap[k]? = wn.heap[k]?) := fun k hk h1 h2 =>
              (hso k h2).trans ((hg4.block k (by have := HZZ.out; omega) (fun e => h1 (Option.some.inj e))).trans ((hb3.block k (by have := HZZ.out; omega)).trans (HKEEP.out k hk h1 h2)))
            have HZ5 : Hid (wn.heap.size ≤ (w4.setCell ⟨BN + 1, 5, none⟩ (.int .i64 ((j : Int) + 1))).heap.size) := by show _ ≤ _; rw [hszf]; have := HZZ.out; omega
            have HSX : Hid (crashStep A L tails X (s, nb) = { X with file := fun k => if k = nb then some (crashedF f tl j) else X.file k, now := X.now.put (keyL sB) (.lit (.int .i64 (nb : Nat))), created := (j : Int) + 1 }) := by
              show _ = _
              have hfo : fileOf A L s = f := by unfold fileOf; rw [HGET.out]; simp [HFB.out]
              unfold crashStep
              simp only [hfo, HXC.out, HFN.out, HKB.out, HTLV.out, Int.toNat_natCast]
            have HZIP : Hid (crashX A L tails ((N.take (j + 1)).zip (l ++ [nb])) = crashStep A L tails X (s, nb)) := by
              show _ = _
              rw [List.take_succ_eq_append_getElem hlt, List.zip_append (by rw [HLLN.out]; simp; omega), HX.out]
              unfold crashX
              rw [List.foldl_append, HS.out]; rfl
            have HSZ5 : Hid (Maps.size (X.now.put (keyL sB) (.lit (.int .i64 (nb : Nat)))) ≤ j + 1) := by
              show _ ≤ _
              rw [size_put HMK2.out.now.tidy]
              have := HXS.out
              split <;> omega
            have HNBW : Hid (w.heap.size ≤ nb) := Nat.le_trans HB2.out.size hnb
            have hnbl := hfa3.1.lt
            have HND5 : Hid ((l ++ [nb]).Nodup ∧ ∀ b ∈ l ++ [nb], b < (w4.setCell ⟨BN + 1, 5, none⟩ (.int .i64 ((j : Int) + 1))).heap.size) := by
              refine ⟨List.nodup_append.2 ⟨HND.out.1, by simp, fun a ha c hc => ?_⟩, fun c hc => ?_⟩
              · obtain rfl := List.mem_singleton.1 hc
                have := HND.out.2 a ha
                omega
              · rw [hszf]
                rcases List.mem_append.1 hc with hc | hc
                · have := HND.out.2 c hc; omega
                · obtain rfl := List.mem_singleton.1 hc; omega
            clear hnbl
            obtain ⟨_, hc5, _, _⟩ := hS4
            have hwr5 : IntKind.i64.wrap ((j : Int) + 1) = j + 1 := IntWalk.i64_in _ (by have := HNL.out; omega)
            clear mk3 mk4 mk5 hset hso hszf hB3 hB4 hz34 hz3 hS3 hd4 hg4 hb3 hfa3 hdk3 hnb hrun4
            go_wp2_with fail
            go_roundw
            case rel => exact ⟨j + 1, l ++ [nb], { X with file := fun k => if k = nb then some (crashedF f tl j) else X.file k, now := X.now.put (keyL sB) (.lit (.int .i64 (nb : Nat))), created := (j : Int) + 1 }, (fun k => if k = nb then d' else dx k), by omega, by go_num, by rw [List.length_append, HLLN.out]; rfl, HND5.out, fun b hb => (List.mem_append.1 hb).elim (HLB.out b) (fun h => by obtain rfl := List.mem_singleton.1 h; exact HNBW.out), by rw [HZIP.out, HSX.out], by simp, HXR.out, HMK5.out, HSZ5.out, HKP5.out, HB5.out, HZ5.out⟩
            case measure => simp [intOf]; omega
        · obtain rfl : j = N.length := by omega
          have c6 := HMK2.out.row.cell (i := 6) rfl
          have f7 := HMK2.out.row.frozen 7
          go_wp2_with fail
          refine (mapsClone_any BN X.now wr HMK2.out.now).mono ?_; rintro e w3 ⟨rfl, hd3, hb3⟩
          have hr3 := Below.blk hb3 HMK2.out.row.lt HMK2.out.row
          have c7' := hr3.cell (i := 7) rfl
          have f7' := hr3.frozen 7
          have hset := hr3.set 7 (.map (some wr.heap.size))
          have hso : ∀ k, k ≠ BN + 1 → (w3.setCell ⟨BN + 1, 7, none⟩ (.map (some wr.heap.size))).heap[k]? = w3.heap[k]? := fun k hk => heap_setCell_other w3 ⟨BN + 1, 7, none⟩ k _ hk
          have hszf : (w3.setCell ⟨BN + 1, 7, none⟩ (.map (some wr.heap.size))).heap.size = w3.heap.size := by simp [World.setCell]
          have hlim := HLIM.out
          have hrl := HMK2.out.row.lt
          have hbase : X.count = 0 ∧ X.armed = false ∧ X.left = 0 ∧ X.plan = [] ∧ X.since = [] := by
            rw [HX.out]
            have := crashX_base A L tails ((N.take N.length).zip l) (newA A.room) ⟨rfl, rfl, rfl, rfl, rfl, rfl⟩
            exact ⟨this.1, this.2.1, this.2.2.1, this.2.2.2.1, this.2.2.2.2.1⟩
          have HFIN := Lib.hid (HMK2.out.done (w' := w3.setCell ⟨BN + 1, 7, none⟩ (.map (some wr.heap.size))) (T := newB w (w3.setCell ⟨BN + 1, 7, none⟩ (.map (some wr.heap.size)))) (bs := wr.heap.size)
            (fun k hk hkg => (hso k hkg).trans (hb3.block k hk)) (fun k hk => ⟨hk.1, by rw [hszf]; exact Nat.lt_of_lt_of_le hk.2 hb3.size⟩) hset (hd3.to (hso _ (by omega))) (Nat.le_refl _) ⟨HB2.out.size, by rw [hszf]; exact hd3.lt⟩ hbase)
          have HBF : Hid (Below w.heap.size w (w3.setCell ⟨BN + 1, 7, none⟩ (.map (some wr.heap.size)))) := (HB2.out.trans (hb3.mono HB2.out.size)).setCell (p := ⟨BN + 1, 7, none⟩) (by show _ ≤ BN + 1; omega) _
          have HCA : Hid (crashA A dirs tails l = { X with sure := X.now }) := by
            show _ = _
            unfold crashA
            rw [HLL.out, HN.out, HX.out, List.take_of_length_le (Nat.le_refl _)]
          clear hd3 hb3 hr3 hset hso hszf hbase c6 f7
          go_wp2_with fail
          go_ret
          exact ⟨BN + 1, l, rfl, by rw [HLL.out, HN.out]; exact HLLN.out, HND.out.1, HLB.out, by rw [HCA.out]; exact ⟨_, _, _, _, _, _, HFIN.out⟩, HBF.out⟩
end Go.Proofs.Ytpfbiijcmmkjlaa
