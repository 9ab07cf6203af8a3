/- SimfsPlays: whatever a script asks for, the file system answers as the document says. A row of numbers inside an argument, opened: it lies in memory, or nothing of it is ever read. Plain; nothing of the program. SimfsPlays, lifted to the statement: whatever is created, appended, synced, renamed and removed, however it is planned and armed, and wherever it crashes, a file system answers as the document says. For every room and every script; no condition. -/
import Derived.Test.YtpfbiijcmmkjlaaFsTp
import Derived.Deep.Slices
import Derived.ChangeSame
import Derived.Test.YtpfbiijcmmkjlaaLift
namespace Go.Proofs.Ytpfbiijcmmkjlaa
open Go.RowKit Go.Maps Go.WideMaps

/-- The script lies in memory. -/
def OpsAt (w : World) (v : Value) (ops : List OpR) : Prop :=
  (v = .slice none 0 0 ∧ ops = []) ∨ ∃ b o cap, v = .slice (some ⟨b, o, none⟩) ops.length cap ∧ b < w.heap.size ∧ ∀ (i : Nat) (op : OpR), ops[i]? = some op → ∃ dv lv, Bytes w dv op.data ∧ RPlan w lv op.nums ∧
    ∀ W : World, W.heap[b]? = w.heap[b]? → (W.cell? ⟨b, o + i * 6, none⟩ = some (.int .i64 op.kind) ∧ W.cell? ⟨b, o + i * 6 + 1, none⟩ = some (.int .i64 op.num) ∧ W.cell? ⟨b, o + i * 6 + 2, none⟩ = some (.string op.name) ∧ W.cell? ⟨b, o + i * 6 + 3, none⟩ = some (.string op.dest) ∧ W.cell? ⟨b, o + i * 6 + 4, none⟩ = some (dv) ∧ W.cell? ⟨b, o + i * 6 + 5, none⟩ = some (lv))
/-- Its numbers are a machine's. -/
def OpsOk (ops : List OpR) : Prop := ∀ op ∈ ops, op.name.size ≤ 9223372036854775807 ∧ op.dest.size ≤ 9223372036854775807 ∧ op.num ≤ 9223372036854775807 ∧ ∀ k ∈ op.nums, k ≤ 9223372036854775807
theorem OpsAt.slice {w : World} {v : Value} {ops : List OpR} (h : OpsAt w v ops) : ∃ a c, v = .slice a ops.length c := by
  rcases h with ⟨rfl, rfl⟩ | ⟨b, o, cap, rfl, _⟩
  · exact ⟨_, _, rfl⟩
  · exact ⟨_, _, rfl⟩
/-- Both file systems, the reference's in a box. -/
def Both (w0 wr : World) (b7 n : Nat) (g : Nat) (S : Nat → Prop) (A : FsA) (R : RSt) (fa : Option Addr) (fc : Nat) (da : Option Addr) (dc : Nat) (sa : Option Addr) (sc : Nat) (ca : Option Addr) (cc : Nat) (pa : Option Addr) (pc : Nat) : Prop :=
  Blk wr b7 33 [.int .i64 R.room, .slice fa R.files.length fc, .slice da R.dir.length dc, .slice sa R.sure.length sc, .slice ca R.changes.length cc, .int .i64 R.steps, .int .i64 R.left, .slice pa R.plan.length pc] ∧ RFs (fun k => ¬ S k ∧ k ≠ b7) wr (.agg #[.int .i64 R.room, .slice fa R.files.length fc, .slice da R.dir.length dc, .slice sa R.sure.length sc, .slice ca R.changes.length cc, .int .i64 R.steps, .int .i64 R.left, .slice pa R.plan.length pc]) R ∧ PF w0 wr g S A ∧ Inv A n ∧ Sim A R ∧ ¬ S b7 ∧ w0.heap.size ≤ b7
theorem sim_new (room : Int) : Sim (newA room) { emptyR with room := room, left := -1 } := by
  refine ⟨rfl, rfl, rfl, rfl, by show 0 < 1000; omega, rfl, fun b b' f f' h => (by cases h), fun b f h => (by cases h), fun x hx => (by cases hx), rfl, fun c hc => (by cases hc), fun i => ?_, fun i x hx => ?_, rfl⟩
  · have e1 : preD (newA room) i = .map [] := by unfold preD newA; simp
    have e2 : preR { emptyR with room := room, left := -1 } i = [] := by unfold preR emptyR; simp
    rw [e1, e2]
    exact ⟨List.Pairwise.nil, fun x hx => (by cases hx), fun s => .inl ⟨rfl, rfl⟩⟩
  · have e2 : preR { emptyR with room := room, left := -1 } i = [] := by unfold preR emptyR; simp
    rw [e2] at hx; cases hx
theorem Both.next {w0 w5 w6 : World} {b7 n : Nat} {S : Nat → Prop} {c0 c1 c2 c3 c4 c5 c6 c7 : Value} {g : Nat} {S6 : Nat → Prop} {A : FsA} {R : RSt} {fa : Option Addr} {fc : Nat} {da : Option Addr} {dc : Nat} {sa : Option Addr} {sc : Nat} {ca : Option Addr} {cc : Nat} {pa : Option Addr} {pc : Nat} (hk : Blk w5 b7 33 [c0, c1, c2, c3, c4, c5, c6, c7]) (hnb : ¬ S b7) (hlo : w0.heap.size ≤ b7) (hpf : PF w0 w6 g S6 A) (hI : Inv A n) (hS : Sim A R) (hr : RFs (fun k => ¬ S6 k ∧ (k ≠ b7 ∨ w5.heap.size ≤ k)) w6 (.agg #[.int .i64 R.room, .slice fa R.files.length fc, .slice da R.dir.length dc, .slice sa R.sure.length sc, .slice ca R.changes.length cc, .int .i64 R.steps, .int .i64 R.left, .slice pa R.plan.length pc]) R) (ha : Adv S S6 w5 w6) :
    Both w0 (putFS w6 b7 (.int .i64 R.room) (.slice fa R.files.length fc) (.slice da R.dir.length dc) (.slice sa R.sure.length sc) (.slice ca R.changes.length cc) (.int .i64 R.steps) (.int .i64 R.left) (.slice pa R.plan.length pc)) b7 n g S6 A R fa fc da dc sa sc ca cc pa pc := by
  obtain ⟨hk6, hn6⟩ := ha.blk hk hnb
  have hg := grown_put (w1 := w6) (b := b7) (.int .i64 R.room) (.slice fa R.files.length fc) (.slice da R.dir.length dc) (.slice sa R.sure.length sc) (.slice ca R.changes.length cc) (.int .i64 R.steps) (.int .i64 R.left) (.slice pa R.plan.length pc)
  have hlt := hk.lt
  have hq : ∀ k, (¬ S6 k ∧ (k ≠ b7 ∨ w5.heap.size ≤ k)) → ¬ S6 k ∧ k ≠ b7 := fun k h => ⟨h.1, fun e => h.2.elim (fun h => h e) fun h => by omega⟩
  exact ⟨putFS_blk hk6 (.int .i64 R.room) (.slice fa R.files.length fc) (.slice da R.dir.length dc) (.slice sa R.sure.length sc) (.slice ca R.changes.length cc) (.int .i64 R.steps) (.int .i64 R.left) (.slice pa R.plan.length pc), grown_rfs (hr.mono hq) hg (fun k hk' e => hk'.2 (Option.some.inj e).symm), hpf.grown hg (fun k e => by cases e; exact ⟨hn6, hlo⟩), hI, hS, hn6, hlo⟩
set_option maxRecDepth 100000 in
set_option maxHeartbeats 16000000 in
theorem plays_any (room : Int) (v : Value) (ops : List OpR) (w0 : World) (h : OpsAt w0 v ops) (hok : OpsOk ops) :
    Calls Try.prog 3 #[.int .i64 room, v] w0 fun e w' => e = .returned (.bool true) ∧ Below w0.heap.size w0 w' := by
  obtain ⟨va, vc, rfl⟩ := h.slice
  have HOP := Lib.hid h
  have HOK := Lib.hid hok
  clear h hok
  go_enter Try.func3, Try.ntmps3
  go_wp2_with fail
  refine (awake_any w0).mono ?_; rintro e w1 ⟨rfl, hb1⟩
  have HB1 := Lib.hid hb1
  clear hb1
  by_cases hr : 1 ≤ room ∧ room ≤ 1048576
  · go_wp2_with fail
    refine (new_pf room hr.1 hr.2 HB1.out).mono ?_; rintro e w2 ⟨g, S, rfl, hpf, hb2⟩
    have HPF := Lib.hid hpf
    clear hpf hb2
    have hRN : newR room = ({ emptyR with room := room, left := -1 }, 0) := by unfold newR; rw [if_neg (by omega), if_neg (by omega)]
    have hNW := refNew_any (fun k => ¬ S k ∧ k ≠ k) room w2
    rw [hRN] at hNW
    have HNW := Lib.hid hNW
    clear hNW hRN
    go_wp2_with fail
    refine HNW.out.mono ?_; rintro e w3 ⟨v3, rfl, hrf, hb3⟩
    obtain ⟨fa, fc, da, dc, sa, sc, ca, cc, pa, pc, cvs, rfl, -⟩ := hrf.parts
    obtain ⟨R0, hR0⟩ : ∃ R0 : RSt, R0 = { emptyR with room := room, left := -1 } := ⟨_, rfl⟩
    have hsim := sim_new room
    rw [← hR0] at hrf hsim
    go_upto_region 5 with fail
    refine wp_world fun w4 hw4 => ?_
    have hk7 : Blk w4 w3.heap.size 33 [.int .i64 R0.room, .slice fa R0.files.length fc, .slice da R0.dir.length dc, .slice sa R0.sure.length sc, .slice ca R0.changes.length cc, .int .i64 R0.steps, .int .i64 R0.left, .slice pa R0.plan.length pc] := by rw [hw4, hR0]; exact Blk.new w3 33 _
    have hb4 : Below w3.heap.size w3 w4 := by rw [hw4]; exact (Below.refl _ _).alloc (Nat.le_refl _) _
    clear hw4
    have hpf3 := HPF.out.below hb3
    have hbo : Both w0 w4 w3.heap.size 0 g S (newA room) R0 fa fc da dc sa sc ca cc pa pc :=
      ⟨hk7, ((hrf.lt.below hb4).mono fun k hk => ⟨hk.1.1, by have := hk.2; omega⟩), hpf3.below hb4, Inv.new room hr.1 hr.2, hsim, fun e => by have := (hpf3.lo _ e).2; omega, hpf3.base.size⟩
    obtain ⟨b7, hb7⟩ : ∃ b7, b7 = w3.heap.size := ⟨_, rfl⟩
    rw [← hb7] at hbo
    try rw [← hb7]
    clear hk7 hb4 hb3 hrf hsim hpf3 hb7 hR0 HPF HNW HB1
    go_wp2_with fail
    go_loopw [5, 9] (fun s5 s9 wr => ∃ (i g : Nat) (S : Nat → Prop) (A : FsA) (R : RSt) (fa : Option Addr) (fc : Nat) (da : Option Addr) (dc : Nat) (sa : Option Addr) (sc : Nat) (ca : Option Addr) (cc : Nat) (pa : Option Addr) (pc : Nat), i ≤ 60 ∧ i ≤ ops.length ∧ s5 = .pointer (some ⟨g, 0, none⟩) ∧ s9 = .int .i64 i ∧ Both w0 wr b7 (3 * i) g S A R fa fc da dc sa sc ca cc pa pc)
      (fun _ s9 _ => 60 - (intOf s9).toNat)
    case atStart => exact ⟨0, g, S, _, R0, fa, fc, da, dc, sa, sc, ca, cc, pa, pc, Nat.zero_le _, Nat.zero_le _, rfl, rfl, hbo⟩
    case round =>
      clear hbo
      obtain ⟨i, g, S, A, R, fa, fc, da, dc, sa, sc, ca, cc, pa, pc, hi60, hil, rfl, rfl, hbo⟩ := hrel
      have HBO := Lib.hid hbo
      clear hbo
      by_cases hlt : i < ops.length ∧ i < 60
      · have l1 : (i : Int) < ops.length := by omega
        have l2 : (i : Int) < 60 := by omega
        have hoi := List.getElem?_eq_getElem hlt.1
        have hok := HOK.out _ (List.getElem_mem hlt.1)
        generalize ops[i] = op at hoi hok
        rcases HOP.out with ⟨_, h0⟩ | ⟨b, o, cap, hv, hb, hc⟩
        · rw [h0] at hoi; cases hoi
        obtain ⟨dv, lv, hdv, hlv, hcc⟩ := hc i op hoi
        cases hv
        obtain ⟨oa, oc, rfl⟩ := hdv.slice
        obtain ⟨la, lc, rfl⟩ := hlv.slice
        have HCC := Lib.hid (fun (W : World) (hW : Below w0.heap.size w0 W) => hcc W (hW.block b hb))
        have HDV := Lib.hid hdv
        have HLV := Lib.hid hlv
        have HOP1 := Lib.hid hok
        have hbase := HBO.out.2.2.1.base
        obtain ⟨q0, q1, q2, q3, q4, q5⟩ := HCC.out wr hbase
        have HFT := Lib.hid (fits_any op.kind op.num op.name op.dest oa op.data.length oc la op.nums.length lc wr)
        have HFB : Hid (fitsB op.data.length op.nums.length op.name.size op.dest.size = true → OpOk op) := fun e => by
          unfold fitsB at e
          simp only [Bool.and_eq_true, decide_eq_true_eq] at e
          exact ⟨e.1.1, e.1.2, HOP1.out.1, HOP1.out.2.1, HOP1.out.2.2.1, HOP1.out.2.2.2⟩
        generalize fitsB op.data.length op.nums.length op.name.size op.dest.size = F at HFT HFB
        clear hoi hok hc hdv hlv hcc hbase hb
        go_wp2_with fail
        refine HFT.out.mono ?_; rintro e w5 ⟨rfl, hb5⟩
        clear q0 q1 q2 q3 q4 q5
        obtain ⟨hk7, hrf, hpf, hinv, hsim, hnb, hb7⟩ := HBO.out
        have hpf5 := hpf.below hb5
        have hk75 := (show Blk w5 b7 33 [.int .i64 R.room, .slice fa R.files.length fc, .slice da R.dir.length dc, .slice sa R.sure.length sc, .slice ca R.changes.length cc, .int .i64 R.steps, .int .i64 R.left, .slice pa R.plan.length pc] from (hb5.block _ hk7.lt).trans hk7)
        have hrf5 := hrf.below hb5
        cases F with
        | false =>
          have HB5 : Hid (Both w0 w5 b7 (3 * (i + 1)) g S A R fa fc da dc sa sc ca cc pa pc) := ⟨hk75, hrf5, hpf5, hinv.mono (by omega), hsim, hnb, hb7⟩
          clear hk7 hrf hpf hinv hsim hnb hb7 hpf5 hk75 hrf5 hb5
          go_wp2_with fail
          go_roundw
          case rel => exact ⟨i + 1, g, S, A, R, fa, fc, da, dc, sa, sc, ca, cc, pa, pc, by omega, by omega, rfl, by go_num, HB5.out⟩
          case measure => simp [intOf]; omega
        | true =>
          have HPL := Lib.hid (fun (W : World) (hW : Below w5.heap.size w5 W) => play_any (P := fun k => k ≠ b7) _ (.agg #[.int .i64 op.kind, .int .i64 op.num, .string op.name, .string op.dest, .slice oa op.data.length oc, .slice la op.nums.length lc]) op (hpf5.below hW) hinv (by omega) hsim (hrf5.below hW) (fun k hk => by omega) ⟨_, _, rfl, HDV.out, HLV.out⟩ (HFB.out rfl))
          have HRF5 := Lib.hid hrf5
          have HK75 := Lib.hid hk75
          have HPF5 := Lib.hid hpf5
          have HNB := Lib.hid (show ¬ S b7 ∧ w0.heap.size ≤ b7 from ⟨hnb, hb7⟩)
          clear hk7 hrf hpf hinv hsim hnb hb7 hpf5 hk75 hrf5 hb5
          obtain ⟨x0, x1, x2, x3, x4, x5, x6, x7, -⟩ := HK75.out.fs
          have HBD := Lib.hid (⟨rfl, rfl, rfl, Nat.le_refl _, fun _ _ => rfl⟩ : Below w5.heap.size w5 w5.drew)
          go_upto_region 12 with fail
          go_cut [5, 10] (fun s5 s10 wx => ∃ (g : Nat) (S : Nat → Prop) (A : FsA) (R : RSt) (fa : Option Addr) (fc : Nat) (da : Option Addr) (dc : Nat) (sa : Option Addr) (sc : Nat) (ca : Option Addr) (cc : Nat) (pa : Option Addr) (pc : Nat), s5 = .pointer (some ⟨g, 0, none⟩) ∧ s10 = .bool true ∧ Both w0 wx b7 (3 * i + 3) g S A R fa fc da dc sa sc ca cc pa pc)
          case first =>
            obtain ⟨q0, q1, q2, q3, q4, q5⟩ := HCC.out w5 HPF5.out.base
            go_region_with (first | (go_at_call 9; refine (HPL.out _ HBD.out).mono ?_; rintro e w6 ⟨g6, S6, A6, R6, v6, rfl, hpf6, hinv6, hsim6, hrf6, hadv6⟩; obtain ⟨fa6, fc6, da6, dc6, sa6, sc6, ca6, cc6, pa6, pc6, cvs6, rfl, -⟩ := hrf6.parts; have hk76 := hadv6.blk HK75.out.drew HNB.out.1; have HK76 := Lib.hid hk76; have HRF6 := Lib.hid hrf6; have HPF6 := Lib.hid hpf6; have HAD6 := Lib.hid hadv6; clear hk76 x0 x1 x2 x3 x4 x5 x6 x7 q0 q1 q2 q3 q4 q5 hpf6 hrf6 hadv6; obtain ⟨z0, z1, z2, z3, z4, z5, z6, z7, y0, y1, y2, y3, y4, y5, y6, y7⟩ := HK76.out.1.fs))
            all_goals go_wp2_with fail
            all_goals go_meet
            all_goals
              have hB := Both.next (n := 3 * i + 3) HK75.out.drew HNB.out.1 HNB.out.2 HPF6.out hinv6 hsim6 HRF6.out HAD6.out
              unfold putFS at hB
              exact ⟨g6, S6, A6, R6, fa6, fc6, da6, dc6, sa6, sc6, ca6, cc6, pa6, pc6, rfl, rfl, hB⟩
          case rest =>
            clear HK75 HPF5 HRF5 HNB HPL HBD x0 x1 x2 x3 x4 x5 x6 x7
            obtain ⟨g2, S2, A2, R2, fa2, fc2, da2, dc2, sa2, sc2, ca2, cc2, pa2, pc2, rfl, rfl, hb2⟩ := hcut
            have HB2 := Lib.hid hb2
            clear hb2
            obtain ⟨x0, x1, x2, x3, x4, x5, x6, x7, y0, y1, y2, y3, y4, y5, y6, y7⟩ := HB2.out.1.fs
            go_upto_region 13 with fail
            have HBD2 : Below wc.heap.size wc wc.drew := ⟨rfl, rfl, rfl, Nat.le_refl _, fun _ _ => rfl⟩
            have HTA := Lib.hid (fun (W : World) (hW : Below wc.heap.size wc W) => tells_any (.agg #[.int .i64 R2.room, .slice fa2 R2.files.length fc2, .slice da2 R2.dir.length dc2, .slice sa2 R2.sure.length sc2, .slice ca2 R2.changes.length cc2, .int .i64 R2.steps, .int .i64 R2.left, .slice pa2 R2.plan.length pc2]) W (HB2.out.2.2.1.below hW) HB2.out.2.2.2.1 (by omega) HB2.out.2.2.2.2.1 ((HB2.out.2.1.below hW).mono fun k hk => hk.1))
            go_wp2_with fail
            refine (HTA.out _ (Below.refl _ _)).mono ?_; rintro e w8 ⟨rfl, hb8⟩
            obtain ⟨hB1, hB2, hB3, hB4, hB5, hB6, hB7⟩ := HB2.out
            have hB3' := hB3.below hb8
            have HB9 : Hid (Both w0 w8 b7 (3 * i + 3) g2 S2 A2 R2 fa2 fc2 da2 dc2 sa2 sc2 ca2 cc2 pa2 pc2) := ⟨(hb8.block _ hB1.lt).trans hB1, hB2.below hb8, hB3', hB4, hB5, hB6, hB7⟩
            clear hB1 hB2 hB3 hB3' hB4 hB5 hB6 hB7 hb8 x0 x1 x2 x3 x4 x5 x6 x7 y0 y1 y2 y3 y4 y5 y6 y7
            go_wp2_with fail
            go_roundw
            case rel => exact ⟨i + 1, g2, S2, A2, R2, fa2, fc2, da2, dc2, sa2, sc2, ca2, cc2, pa2, pc2, by omega, by omega, rfl, by go_num, by rw [Nat.mul_add]; exact HB9.out⟩
            case measure => simp [intOf]; omega
      · have hbB := HBO.out.2.2.1.base
        by_cases hl : i < ops.length
        · have l1 : (i : Int) < ops.length := by omega
          have l2 : ¬ (i : Int) < 60 := by omega
          go_wp2_with fail
          exact bodyPost_ret (v := .bool true) (by simp [results, Try.results3, go_sem]) rfl ⟨rfl, hbB⟩
        · have l1 : ¬ (i : Int) < ops.length := by omega
          go_wp2_with fail
          exact bodyPost_ret (v := .bool true) (by simp [results, Try.results3, go_sem]) rfl ⟨rfl, hbB⟩
  · have hRN : (newR room).2 = 1 := by
      unfold newR
      by_cases h1 : room < 1
      · rw [if_pos h1]
      · rw [if_neg h1, if_pos (by omega)]
    have hNW := refNew_any (fun _ => True) room w1
    rw [hRN] at hNW
    go_wp2_with fail
    refine (new_no room hr _).mono ?_; rintro e w2 ⟨rfl, rfl⟩
    go_wp2_with fail
    refine hNW.mono ?_; rintro e w3 ⟨v3, rfl, hrf, hb3⟩
    obtain ⟨fa, fc, da, dc, sa, sc, ca, cc, pa, pc, cvs, rfl, -⟩ := hrf.parts
    have hb03 := HB1.out.trans (hb3.mono HB1.out.size)
    generalize newR room = RR at *
    clear hNW
    go_upto_region 5 with fail
    refine wp_world fun w4 hw4 => ?_
    have hb4 : Below w0.heap.size w0 w4 := by rw [hw4]; exact hb03.alloc hb03.size _
    clear hw4
    go_wp2_with fail
    go_loopw [5, 9] (fun s5 s9 wr => s5 = .pointer none ∧ s9 = .int .i64 0 ∧ Below w0.heap.size w0 wr)
      (fun _ _ _ => 0)
    case atStart => exact ⟨rfl, rfl, hb4⟩
    case round =>
      obtain ⟨rfl, rfl, hbB⟩ := hrel
      go_wp2_with fail
      exact bodyPost_ret (v := .bool true) (by simp [results, Try.results3, go_sem]) rfl ⟨rfl, hbB⟩
end Go.Proofs.Ytpfbiijcmmkjlaa
namespace Go.Proofs.Ytpfbiijcmmkjlaa
open Go.RowKit Go.WideShapes Go.ChangeShapes Go.Deep
section
variable {H : Type} {enc : TypeId × Value → H} {P : Program} {w : World} {base : Nat} {held : Bool}
theorem cell_here {a : Addr} {v : Value} (h : w.cell? a = some v) : a.spot = none ∧ a.block < w.heap.size := by
  refine ⟨?_, World.block_lt_of_cell? w a h⟩
  unfold World.cell? at h
  split at h
  · split at h
    · cases h
    · rename_i hs; cases hsp : a.spot <;> simp_all
  · cases h
/-- The row's numbers lie in memory; or it has room for none, and where it points is never looked at. -/
theorem open_row {t e : TypeId} {k : IntKind} {fuel : Nat} {v : Value} {x : DataW H × List MemPlace} (ht : P.underlying t = some (.slice e)) (he : P.underlying e = some (.int k)) (hc : P.cellsOf e = 1)
    (h : DataW.trod enc P w base (fun _ => true) held fuel t [v] = some x) :
    ∃ zs : List Int, (∀ z ∈ zs, (Lit.int k z).wf = true) ∧ ((v = .slice none 0 0 ∧ zs = []) ∨ (∃ a, v = .slice (some a) 0 0 ∧ zs = []) ∨
      ∃ pb po cap, v = .slice (some ⟨pb, po, none⟩) zs.length cap ∧ zs.length ≤ cap ∧ pb < w.heap.size ∧ w.rangeAt pb po (zs.map (Value.int k))) := by
  rcases open_ints ht he hc h with ⟨hcs, _⟩ | ⟨a, len, cap, zs, hcs, _, hl, hm, hz, hx, hcell, hwz⟩
  · simp at hcs
    exact ⟨[], fun z hz => (by cases hz), .inl ⟨hcs, rfl⟩⟩
  · simp at hcs
    subst hcs
    simp at hz
    by_cases h0 : cap = 0
    · subst h0
      obtain rfl : len = 0 := by omega
      exact ⟨[], fun z hz => (by cases hz), .inr (.inl ⟨a, rfl, rfl⟩)⟩
    · obtain ⟨ab, ao, asp⟩ := a
      have h1 := hcell 0 (by omega)
      obtain ⟨hsp, hlt⟩ := cell_here h1
      have e0 : Addr.add ⟨ab, ao, asp⟩ 0 = ⟨ab, ao, asp⟩ := by unfold Addr.add; simp
      rw [e0] at hsp hlt
      cases hsp
      have hlen : (zs.take len).length = len := by simp; omega
      refine ⟨zs.take len, fun z hz => hwz z (List.mem_of_mem_take hz), .inr (.inr ⟨ab, ao, cap, by rw [hlen], by omega, hlt, fun j u hu => ?_⟩)⟩
      rw [List.getElem?_map] at hu
      cases hj : (zs.take len)[j]? with
      | none => rw [hj] at hu; cases hu
      | some y =>
        rw [hj] at hu
        cases hu
        have hjl : j < len := by have := (List.getElem?_eq_some_iff.1 hj).1; omega
        have hcj := hcell j (by omega)
        rw [List.getElem?_take_of_lt hjl] at hj
        rw [List.getD_eq_getElem?_getD, hj] at hcj
        have e : Addr.add ⟨ab, ao, none⟩ j = ⟨ab, ao + j, none⟩ := by unfold Addr.add; by_cases h : j = 0 <;> simp [h]
        rw [← e]; exact hcj
/-- Such a row. -/
def Row (w : World) (v : Value) (k : IntKind) (zs : List Int) : Prop := (v = .slice none 0 0 ∧ zs = []) ∨ (∃ a, v = .slice (some a) 0 0 ∧ zs = []) ∨
  ∃ pb po cap, v = .slice (some ⟨pb, po, none⟩) zs.length cap ∧ zs.length ≤ cap ∧ pb < w.heap.size ∧ w.rangeAt pb po (zs.map (Value.int k))
end
theorem opCells : Try.prog.cellsOf 39 = 6 := by kernel_rfl
theorem opCellsI : Try.prog.cellsOf 3 = 1 := by kernel_rfl
theorem opCellsS : Try.prog.cellsOf 9 = 1 := by kernel_rfl
theorem opCellsB : Try.prog.cellsOf 37 = 1 := by kernel_rfl
theorem opCellsL : Try.prog.cellsOf 31 = 1 := by kernel_rfl
theorem opCellsU : Try.prog.cellsOf 5 = 1 := by kernel_rfl
theorem wf_max {z : Int} (h : (Lit.int .i64 z).wf = true) : z ≤ 9223372036854775807 := by
  simp only [Lit.wf, Bool.and_eq_true, decide_eq_true_eq] at h
  have e : IntKind.i64.max = 9223372036854775807 := by decide
  rw [e] at h
  exact h.2
section
variable {H : Type} {enc : TypeId × Value → H} {w : World} {base : Nat} {held : Bool}
set_option maxRecDepth 100000 in
theorem open_op {fuel : Nat} {cs : List Value} {y : DataW H × List MemPlace} (h : DataW.trod enc Try.prog w base (fun _ => true) held fuel 39 cs = some y) :
    ∃ (op : OpR) (dv lv : Value), cs = [.int .i64 op.kind, .int .i64 op.num, .string op.name, .string op.dest, dv, lv] ∧ Row w dv .u8 op.data ∧ Row w lv .i64 op.nums ∧
      op.name.size ≤ 9223372036854775807 ∧ op.dest.size ≤ 9223372036854775807 ∧ op.num ≤ 9223372036854775807 ∧ ∀ k ∈ op.nums, k ≤ 9223372036854775807 := by
  obtain ⟨xs, k, _, _, hcl, hxl, hf⟩ := DataW.trod_struct Try.underlying39 h
  rw [opCells] at hcl
  match xs, hxl, cs, hcl with
  | [y0, y1, y2, y3, y4, y5], _, [v0, v1, v2, v3, v4, v5], _ =>
    have g0 := hf 0 _ rfl
    have g1 := hf 1 _ rfl
    have g2 := hf 2 _ rfl
    have g3 := hf 3 _ rfl
    have g4 := hf 4 _ rfl
    have g5 := hf 5 _ rfl
    simp [opCellsI, opCellsS, opCellsB, opCellsL] at g0 g1 g2 g3 g4 g5
    obtain ⟨n0, e0, _, w0⟩ := DataW.trod_int Try.underlying3 g0
    obtain ⟨n1, e1, _, w1⟩ := DataW.trod_int Try.underlying3 g1
    obtain ⟨s2, e2, _, w2⟩ := DataW.trod_string Try.underlying9 g2
    obtain ⟨s3, e3, _, w3⟩ := DataW.trod_string Try.underlying9 g3
    obtain ⟨zd, _, hd⟩ := open_row Try.underlying37 Try.underlying5 opCellsU g4
    obtain ⟨zl, wl, hl⟩ := open_row Try.underlying31 Try.underlying3 opCellsI g5
    simp at e0 e1 e2 e3
    subst e0 e1 e2 e3
    unfold maxLen at w2 w3
    exact ⟨⟨n0, n1, s2, s3, zd, zl⟩, v4, v5, rfl, hd, hl, by show s2.size ≤ _; omega, by show s3.size ≤ _; omega, wf_max w1, fun k hk => wf_max (wl k hk)⟩
/-- The script lies in memory; a row with room for none may point anywhere. -/
def OpsRow (w : World) (v : Value) (ops : List OpR) : Prop :=
  (v = .slice none 0 0 ∧ ops = []) ∨ ∃ b o cap, v = .slice (some ⟨b, o, none⟩) ops.length cap ∧ b < w.heap.size ∧ ∀ (i : Nat) (op : OpR), ops[i]? = some op → ∃ dv lv, Row w dv .u8 op.data ∧ Row w lv .i64 op.nums ∧
    ∀ W : World, W.heap[b]? = w.heap[b]? → (W.cell? ⟨b, o + i * 6, none⟩ = some (.int .i64 op.kind) ∧ W.cell? ⟨b, o + i * 6 + 1, none⟩ = some (.int .i64 op.num) ∧ W.cell? ⟨b, o + i * 6 + 2, none⟩ = some (.string op.name) ∧ W.cell? ⟨b, o + i * 6 + 3, none⟩ = some (.string op.dest) ∧ W.cell? ⟨b, o + i * 6 + 4, none⟩ = some (dv) ∧ W.cell? ⟨b, o + i * 6 + 5, none⟩ = some (lv))
instance : Inhabited OpR := ⟨⟨0, 0, .empty, .empty, [], []⟩⟩
set_option maxRecDepth 100000 in
theorem open_ops {r : Reach} {b0 : Nat} {v : Value} {d : DataW H} {ps : List MemPlace} (hval : Value.okWide Try.prog w r b0 22 v)
    (hd : DataW.Trod enc Try.prog w base (fun _ => true) held 22 v d ps) : ∃ ops : List OpR, OpsRow w v ops ∧ OpsOk ops := by
  obtain ⟨a0, len, cap, rfl⟩ := okWide_slice Try.underlying22 hval
  obtain ⟨fuel, hf⟩ := hd
  rcases open_slice Try.underlying22 hf with ⟨hcs, _⟩ | ⟨a, len', cap', m, n, D, Pl, hcs, _, hl, hm, hmm, _, hx⟩
  · simp [Value.cells] at hcs
    obtain ⟨rfl, rfl, rfl⟩ := hcs
    exact ⟨[], Or.inl ⟨rfl, rfl⟩, fun z hz => by cases hz⟩
  · simp [Value.cells] at hcs
    obtain ⟨rfl, rfl, rfl⟩ := hcs
    have hok : w.has Try.prog r b0 a 39 cap := by
      unfold Value.okWide Cell.okWide Cell.ok at hval
      rw [Try.underlying22] at hval
      exact hval.2.2
    obtain ⟨_, hsp, row, cells, hsh, _⟩ := hok
    obtain ⟨ab, ao, asp⟩ := a
    cases hsp
    simp at hmm
    have each : ∀ i, i < len → ∃ op : OpR, (∃ dv lv, Row w dv .u8 op.data ∧ Row w lv .i64 op.nums ∧ ∀ (j : Nat) (u : Value), [Value.int .i64 op.kind, .int .i64 op.num, .string op.name, .string op.dest, dv, lv][j]? = some u → w.cell? ⟨ab, ao + i * 6 + j, none⟩ = some u) ∧
        op.name.size ≤ 9223372036854775807 ∧ op.dest.size ≤ 9223372036854775807 ∧ op.num ≤ 9223372036854775807 ∧ ∀ k ∈ op.nums, k ≤ 9223372036854775807 := by
      intro i hi
      obtain ⟨cs', h1, h2⟩ := hx i (by omega)
      rw [opCells] at h1
      obtain ⟨op, dv, lv, rfl, hdv, hlv, hz⟩ := open_op h2
      obtain ⟨_, _, hcell⟩ := World.cells?_some h1
      refine ⟨op, ⟨dv, lv, hdv, hlv, fun j u hu => ?_⟩, hz⟩
      have hj : j < 6 := (List.getElem?_eq_some_iff.1 hu).1
      have hc := hcell j hj
      rw [add_add, Addr.add_mid, ← Nat.add_assoc, hu] at hc
      exact hc
    obtain ⟨f, hfn⟩ := choose_lt each
    have hlen : ((List.range len).map f).length = len := by simp
    refine ⟨(List.range len).map f, Or.inr ⟨ab, ao, cap, by rw [hlen], shape_lt hsh, fun i op hop => ?_⟩, fun op hop => ?_⟩
    · rw [List.getElem?_map] at hop
      by_cases hi : i < len
      · rw [List.getElem?_range hi] at hop
        cases hop
        obtain ⟨dv, lv, hdv, hlv, hc⟩ := (hfn i hi).1
        exact ⟨dv, lv, hdv, hlv, fun W hW => ⟨by rw [World.cell?_of_block (w := w) hW]; exact hc 0 _ rfl, by rw [World.cell?_of_block (w := w) hW]; exact hc 1 _ rfl, by rw [World.cell?_of_block (w := w) hW]; exact hc 2 _ rfl,
          by rw [World.cell?_of_block (w := w) hW]; exact hc 3 _ rfl, by rw [World.cell?_of_block (w := w) hW]; exact hc 4 _ rfl, by rw [World.cell?_of_block (w := w) hW]; exact hc 5 _ rfl⟩⟩
      · rw [List.getElem?_eq_none (by simpa using hi)] at hop
        cases hop
    · obtain ⟨i, hi, rfl⟩ := List.mem_map.1 hop
      exact (hfn i (List.mem_range.1 hi)).2
end
end Go.Proofs.Ytpfbiijcmmkjlaa
namespace Go.Proofs.Ytpfbiijcmmkjlaa
open Go.RowKit Go.WideShapes Go.ChangeShapes Go.ChangeAt
theorem OpsRow.isAt {w : World} {v : Value} {ops : List OpR} (h : OpsRow w v ops) : OpsAt w v ops := h

set_option maxRecDepth 100000 in
theorem plays_lifted (os : Os) (started : os.Started) (H : Type) (enc : TypeId × Value → H) :
    ReturnsInHanded {} Try.checked os 3 .any (Rows.simfsPlaysSpec.pre6 enc Try.prog Try.f3 Rows.simfsPlaysRow.domain false) (Rows.simfsPlaysSpec.post enc Try.prog Try.f3 false true false false) := by
  refine returnsInHanded_of_change (C := Try.checked) Try.own started (by kernel_rfl) Try.func3
    (ChangeSpec.witness6 (enc := enc) (C := Try.checked) false ⟨#[], #[.int .i64 0, .slice none 0 0], []⟩ 8 (by kernel_rfl) (by kernel_rfl) (by kernel_rfl) (by kernel_rfl)) ?_
  intro W base args ds gs before hval0 hW hcnd _
  have hval : ∀ (j : Nat) t v, Try.f3.params[j]? = some t → args[j]? = some v → Value.okWide Try.prog W .any base t v := hval0
  have hW' := hW
  obtain ⟨p, q, hA0, hV, hbe, hfz, hnd⟩ := hW
  have hA : DataW.TrodAll enc Try.prog W 0 (fun _ => true) true Try.f3.params.toList args.toList ds p := hA0
  rw [Try.params3] at hA hval
  obtain ⟨v0, v1, d0, d1, p0, p1, rfl, rfl, rfl, h0, h1⟩ := trodAll_two hA
  obtain ⟨n, rfl, _, _, _⟩ := open_int Try.underlying3 (hval 0 _ v0 rfl rfl) h0
  obtain ⟨ops, hb, hq⟩ := open_ops (hval 1 _ v1 rfl rfl) h1
  clear hA0 hval0 hfz hnd
  refine (plays_any n v1 ops W hb.isAt hq).mono fun e W' ⟨he, hb⟩ => ?_
  subst he
  obtain rfl : gs = [] := (trodVars_none hV).1
  exact ⟨_, rfl, law_post Try.laidOut hW' rfl (by rw [Try.params3]; decide +kernel) (tb := 4) rfl Try.underlying4 hb rfl⟩

theorem plays_holds : Rows.SimfsPlaysSaid :=
  OpenClaim.holds_of_wide 3 Try.f3 rfl rfl rfl rfl rfl rfl rfl ⟨rfl, rfl, rfl, rfl, rfl⟩ rfl rfl rfl rfl rfl (by kernel_rfl) Try.func3 (by kernel_rfl)
    (of_decide_eq_true (by kernel_rfl)) (by unfold Func.isWrapper; first | (rw [if_pos (by decide +kernel)]; kernel_rfl) | (rw [if_neg (by decide +kernel)]; exact ⟨rfl, rfl⟩))
    (fun os started H enc _ => plays_lifted os started H enc)
end Go.Proofs.Ytpfbiijcmmkjlaa
