/- SeglogPlays: the reference's 'Read' of one file; parts as one; what is soon gone through. -/
import Derived.Test.YtigbgajelkknbaaGreatDoorSgR
namespace Go.Proofs.YtigbgajelkknbaaGreatDoor
open Go.RowKit
set_option maxRecDepth 100000

/-- What the reference reads of a file. -/
def readR (R : RSt) (s : ByteArray) : ByteArray × Int := if (openR R s).2 = 0 then ((fileR R (openR R s).1.toNat).1, 0) else (⟨#[]⟩, (openR R s).2)
set_option maxHeartbeats 4000000 in
theorem refRead_any {P : Nat → Prop} (v : Value) (R : RSt) (s : ByteArray) (w : World) (h : RFs P w v R) (hk : ROk R) (hw : RWell R) (hsz : s.size ≤ 9223372036854775807) :
    Calls Tryz.prog 71 #[v, .string s] w fun e w' => e = .returned (.tuple #[.string (readR R s).1, .int .i64 (readR R s).2]) ∧ Below w.heap.size w w' := by
  have HO := Lib.hid (show readR R s = if (openR R s).2 = 0 then ((fileR R (openR R s).1.toNat).1, 0) else (⟨#[]⟩, (openR R s).2) from rfl)
  have hP := h.lt
  have HF := Lib.hid (fun (w0 : World) (hb : Below w.heap.size w w0) => refOpen_any v R s w0 (hP.below hb) hk hsz)
  have HQ := Lib.hid (fun h => openR_ok (s := s) hw h)
  generalize readR R s = Z at *
  generalize openR R s = q at HO HF HQ
  obtain ⟨q1, q2⟩ := q
  obtain ⟨z1, z2⟩ := Z
  simp only at HO HF HQ
  obtain ⟨fa, fc, da, dc, sa, sc, ca, cc, pa, pc, cvs, rfl, -⟩ := h.parts
  have HH := Lib.hid h
  clear h hk hw hP
  go_enter Tryz.func71, Tryz.ntmps71
  go_wp2_with fail
  refine calls_world fun w0 hw0 => ?_
  have hB0 : Below w.heap.size w w0 := by rw [hw0]; exact (Below.refl _ _).alloc (Nat.le_refl _) _
  have hK0 : Blk w0 w.heap.size 33 [.int .i64 R.room, .slice fa R.files.length fc, .slice da R.dir.length dc, .slice sa R.sure.length sc, .slice ca R.changes.length cc, .int .i64 R.steps, .int .i64 R.left, .slice pa R.plan.length pc] := by rw [hw0]; exact Blk.new w 33 [.int .i64 R.room, .slice fa R.files.length fc, .slice da R.dir.length dc, .slice sa R.sure.length sc, .slice ca R.changes.length cc, .int .i64 R.steps, .int .i64 R.left, .slice pa R.plan.length pc]
  clear hw0
  refine (HF.out w0 hB0).mono ?_; rintro e w1 ⟨rfl, hb1⟩
  have HB1 := Lib.hid (hB0.trans (hb1.mono hB0.size))
  have HK1 := Lib.hid (blk_on hb1 hK0)
  clear hB0 hK0 hb1 HF
  by_cases h2 : q2 = 0
  · subst h2
    obtain ⟨k, rfl, hkl⟩ := HQ.out rfl
    rw [if_pos rfl, Int.toNat_natCast] at HO
    have hfg := fileR_get hkl
    have lk : (k : Int) < R.files.length := by omega
    have hRN := (HH.out.below HB1.out).at_.1
    rcases hRN with ⟨_, h0⟩ | ⟨b, o, cap, hv, hb, hc⟩
    · rw [h0] at hkl; simp at hkl
    obtain ⟨c1, c2⟩ := hc k _ hfg
    cases hv
    have hz : z1 = (fileR R k).1 ∧ z2 = 0 := by
      have := HO.out
      injection this with h1 h2
      exact ⟨h1, h2⟩
    obtain ⟨rfl, rfl⟩ := hz
    obtain ⟨yd, hyd⟩ : ∃ yd, yd = (fileR R k).1 := ⟨_, rfl⟩
    rw [← hyd] at c1
    have HYD := Lib.hid hyd
    clear hyd
    have x1 := HK1.out.cell (i := 1) rfl
    clear hb hc hfg hkl c2 HO
    go_wp2_with fail
    go_ret2
    exact ⟨by rw [← HYD.out]; rfl, HB1.out⟩
  · have h2' : (q2 == 0) = false := by simpa using h2
    rw [if_neg h2] at HO
    have hz : z1 = ⟨#[]⟩ ∧ z2 = q2 := by
      have := HO.out
      injection this with h1 h2
      exact ⟨h1, h2⟩
    obtain ⟨rfl, rfl⟩ := hz
    clear h2 HO HQ
    go_wp2_with fail
    go_ret2
    exact ⟨rfl, HB1.out⟩
theorem sim_read {A : FsA} {R : RSt} {n : Nat} (h : Sim A R) (hI : Inv A n) (s : ByteArray) : readR R s = (strOfNums (readA A s).1, (readA A s).2) := by
  obtain ⟨h1, h2⟩ := h.open_ hI s
  unfold readR readA
  rw [h1]
  by_cases hc : (findA A s).2 = 0
  · rw [if_pos hc, if_pos hc]
    obtain ⟨b, f, e1, _, e3, e4, _, e6, _⟩ := h2 hc
    rw [e4, e6, e1]
    simp [e3, filR]
  · rw [if_neg hc, if_neg hc]
    rfl
set_option maxHeartbeats 4000000 in
theorem joined4_any (v : Value) (ps : List (List Int)) (w : World) (hp : Fr.Parts w v ps) (hm : ps.length ≤ 10) (hl : ∀ i, i < ps.length → (ps.getD i []).length ≤ 900) :
    Calls Tryz.prog 18 #[v] w fun e w' => e = .returned (.string (strOfNums ps.flatten)) ∧ w = w' := by
  obtain ⟨qa, qc, rfl, hpe⟩ := hp.open
  have HPE := Lib.hid hpe
  have HL := Lib.hid hl
  have HM := Lib.hid hm
  clear hp hpe hl hm
  go_enter Tryz.func18, Tryz.ntmps18
  go_wp2_with fail
  go_loopw [3, 5, 8] (fun s3 _ s8 wr => ∃ (i : Nat) (T : ByteArray), i ≤ ps.length ∧ s8 = .int .i64 i ∧ s3 = .string T ∧ T = strOfNums (ps.take i).flatten ∧ (ps.take i).flatten.length ≤ 900 * i ∧ w = wr)
    (fun _ _ s8 _ => ps.length - (intOf s8).toNat)
  case atStart => exact ⟨0, ⟨#[]⟩, by omega, rfl, rfl, by simp [strOfNums], by simp, rfl⟩
  case round =>
    obtain ⟨i, T, hi, rfl, rfl, hT, hTl, rfl⟩ := hrel
    have hm := HM.out
    have hz : T.size = (ps.take i).flatten.length := by rw [hT]; exact strOfNums_size _
    have HT := Lib.hid hT
    clear hT
    by_cases hlt : i < ps.length
    · have l1 : (i : Int) < ps.length := by omega
      obtain ⟨qb, qo, u, rfl, hqb, hcu, hbe⟩ := HPE.out i hlt
      have hfl := Fr.flat_take_succ ps i hlt
      have hpl := HL.out i hlt
      have HFL := Lib.hid hfl
      obtain ⟨p, hp⟩ : ∃ p, p = ps.getD i [] := ⟨_, rfl⟩
      rw [← hp] at hbe hfl hpl HFL
      have hle : (ps.take (i + 1)).flatten.length ≤ 900 * (i + 1) := by rw [hfl, List.length_append]; omega
      have HLE := Lib.hid hle
      have hcv : (convert 37 9 u).run Tryz.prog w = .ok (.string (strOfNums p)) w := Fr.run_stringE hbe
      have hsz2 : (strOfNums p).size = p.length := strOfNums_size p
      have HTT : Hid (T ++ strOfNums p = strOfNums (ps.take (i + 1)).flatten) := by
        show _ = _
        rw [HFL.out, HT.out, str_append]
      obtain ⟨T1, hT1⟩ : ∃ T1, T1 = strOfNums p := ⟨_, rfl⟩
      rw [← hT1] at hcv hsz2 HTT
      have n3 : ¬ 9223372036854775807 < T.size + T1.size := by omega
      clear hfl hle hbe hp hT1 hTl hz hsz2 hpl HFL
      go_wp2_with fail
      go_roundw
      case rel => exact ⟨i + 1, _, by omega, by go_num, rfl, HTT.out, HLE.out, trivial⟩
      case measure => simp [intOf]; omega
    · have l1 : ¬ (i : Int) < ps.length := by omega
      have HE : Hid (T = strOfNums ps.flatten) := by show _ = _; rw [HT.out, List.take_of_length_le (by omega)]
      clear hz hTl
      go_wp2_with fail
      go_ret
      exact ⟨by rw [HE.out]; rfl, rfl⟩
/-- An act, opened. -/
structure OpG where
  kind : Int
  id : Int
  type : Int
  parts : List (List Int)
  fs : OpR
/-- It is soon gone through. -/
structure OpSoon (o : OpG) : Prop where
  parts : o.parts.length ≤ 10
  each : ∀ i, i < o.parts.length → (o.parts.getD i []).length ≤ 900
  data : o.fs.data.length ≤ 300
  nums : o.fs.nums.length ≤ 100
  name : o.fs.name.size ≤ 50
  dest : o.fs.dest.size ≤ 50
/-- What 'fits' says of it. -/
def FitsQ (o : OpG) (w : World) (e : Ending) (w' : World) : Prop := ∃ b, e = .returned (.bool b) ∧ (b = true → OpSoon o) ∧ Below w.heap.size w w'
theorem FitsQ.no {o : OpG} {w w' : World} {e : Ending} (he : e = .returned (.bool false)) (hb : Below w.heap.size w w') : FitsQ o w e w' := ⟨false, he, fun h => (by cases h), hb⟩
theorem FitsQ.yes {o : OpG} {w w' : World} {e : Ending} (he : e = .returned (.bool true)) (h : OpSoon o) (hb : Below w.heap.size w w') : FitsQ o w e w' := ⟨true, he, fun _ => h, hb⟩
set_option maxHeartbeats 8000000 in
theorem fits4_any (o : OpG) (pa : Option Addr) (pc : Nat) (oa : Option Addr) (oc : Nat) (la : Option Addr) (lc : Nat) (w : World) (hp : Fr.Parts w (.slice pa o.parts.length pc) o.parts) :
    Calls Tryz.prog 12 #[.agg #[.int .i64 o.kind, .int .i64 o.id, .int .i64 o.type, .slice pa o.parts.length pc, .int .i64 o.fs.kind, .int .i64 o.fs.num, .string o.fs.name, .string o.fs.dest, .slice oa o.fs.data.length oc, .slice la o.fs.nums.length lc]] w (FitsQ o w) := by
  obtain ⟨qa', qc', hqq, hpe⟩ := hp.open
  cases hqq
  have HPE := Lib.hid hpe
  clear hp hpe
  obtain ⟨kind, id, type, ps, fs⟩ := o
  obtain ⟨fk, fn, nm, ds, data, nums⟩ := fs
  simp only at HPE ⊢
  go_enter Tryz.func12, Tryz.ntmps12
  by_cases h1 : 10 < ps.length
  · have l1 : (10 : Int) < ps.length := by omega
    go_wp2_with fail
    go_ret
    exact FitsQ.no rfl ((Below.refl _ _).alloc (Nat.le_refl _) _)
  have l1 : ¬ (10 : Int) < ps.length := by omega
  by_cases h2 : 300 < data.length
  · have l2 : (300 : Int) < data.length := by omega
    go_wp2_with fail
    go_ret
    exact FitsQ.no rfl ((Below.refl _ _).alloc (Nat.le_refl _) _)
  have l2 : ¬ (300 : Int) < data.length := by omega
  by_cases h3 : 100 < nums.length
  · have l3 : (100 : Int) < nums.length := by omega
    go_wp2_with fail
    go_ret
    exact FitsQ.no rfl ((Below.refl _ _).alloc (Nat.le_refl _) _)
  have l3 : ¬ (100 : Int) < nums.length := by omega
  by_cases h4 : 50 < nm.size
  · have l4 : (50 : Int) < nm.size := by omega
    go_wp2_with fail
    go_ret
    exact FitsQ.no rfl ((Below.refl _ _).alloc (Nat.le_refl _) _)
  have l4 : ¬ (50 : Int) < nm.size := by omega
  by_cases h5 : 50 < ds.size
  · have l5 : (50 : Int) < ds.size := by omega
    go_wp2_with fail
    go_ret
    exact FitsQ.no rfl ((Below.refl _ _).alloc (Nat.le_refl _) _)
  have l5 : ¬ (50 : Int) < ds.size := by omega
  have HH := Lib.hid (show data.length ≤ 300 ∧ nums.length ≤ 100 ∧ nm.size ≤ 50 ∧ ds.size ≤ 50 by omega)
  clear h2 h3 h4 h5
  go_wp2_with fail
  refine wp_world fun wA hwA => ?_
  have HBA : Hid (Below w.heap.size w wA) := by show Below _ _ _; rw [hwA]; exact (Below.refl _ _).alloc (Nat.le_refl _) _
  clear hwA l2 l3 l4 l5
  go_loopw [4, 40] (fun _ s40 wr => ∃ i : Nat, i ≤ ps.length ∧ s40 = .int .i64 i ∧ (∀ j, j < i → (ps.getD j []).length ≤ 900) ∧ wA = wr)
    (fun _ s40 _ => ps.length - (intOf s40).toNat)
  case atStart => exact ⟨0, by omega, rfl, fun j hj => by omega, rfl⟩
  case round =>
    obtain ⟨i, hi, rfl, hall, rfl⟩ := hrel
    have HALL := Lib.hid hall
    clear hall
    by_cases hlt : i < ps.length
    · have lt : (i : Int) < ps.length := by omega
      obtain ⟨qb, qo, u, rfl, hqb, hcu, hbe⟩ := HPE.out i hlt
      have c1 : wA.cell? ⟨qb, qo + i, none⟩ = some u := (HBA.out.cell (p := ⟨qb, qo + i, none⟩) hqb).trans hcu
      obtain ⟨ua, uc, rfl⟩ := hbe.slice
      obtain ⟨pl, hpl⟩ : ∃ pl, pl = (ps.getD i []).length := ⟨_, rfl⟩
      rw [← hpl] at c1
      have HPL := Lib.hid hpl
      clear hcu hbe hqb hpl
      by_cases h9 : 900 < pl
      · have l9 : (900 : Int) < pl := by omega
        go_wp2_with fail
        go_ret
        exact FitsQ.no rfl HBA.out
      · have l9 : ¬ (900 : Int) < pl := by omega
        have H9 := Lib.hid (show pl ≤ 900 by omega)
        clear h9
        go_wp2_with fail
        go_roundw
        case rel =>
          refine ⟨i + 1, by omega, by go_num, fun j hj => ?_, trivial⟩
          by_cases e : j = i
          · rw [e, ← HPL.out]; exact H9.out
          · exact HALL.out j (by omega)
        case measure => simp [intOf]; omega
    · have lt : ¬ (i : Int) < ps.length := by omega
      obtain rfl : i = ps.length := by omega
      clear hlt
      go_wp2_with fail
      go_ret
      exact FitsQ.yes rfl ⟨by show ps.length ≤ 10; omega, HALL.out, HH.out.1, HH.out.2.1, HH.out.2.2.1, HH.out.2.2.2⟩ HBA.out
end Go.Proofs.YtigbgajelkknbaaGreatDoor
