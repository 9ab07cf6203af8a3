/- One segment: what is made of it by calls that go well. Plain; nothing is walked. The statements of layer 4: the fixed fact. -/
import Derived.Test.YtigbgajelkknbaaGreatDoorSgJ
import Derived.Test.YtigbgajelkknbaaGreatDoorFsX
namespace Go.Proofs.YtigbgajelkknbaaGreatDoor
open Go.RowKit Go.Maps Go.WideMaps
set_option maxRecDepth 100000
set_option maxRecDepth 100000

theorem nameB_nameV {id : Int} (h1 : 1 ≤ id) (h2 : id ≤ 2147483647) : nameB (nameV id) = true := by
  have hl := nameV_list h1 h2
  have h5 := nameV_min h1 h2
  have h14 := nameV_size id
  unfold nameB
  rw [show decide (1 ≤ (nameV id).size) = true by simp; omega, show decide ((nameV id).size ≤ 20) = true by simp; omega]
  have ho : oddS (nameV id) = false := by
    unfold oddS
    rw [hl]
    rw [List.any_eq_false]
    intro c hc
    simp only [List.mem_cons] at hc
    rcases hc with rfl | rfl | rfl | rfl | hc
    · decide
    · decide
    · decide
    · decide
    · have := digits_all _ c hc
      unfold oddB
      simp; omega
  rw [ho]; rfl
theorem codeN_ok {id : Int} (h1 : 1 ≤ id) (h2 : id ≤ 2147483647) : codeN id = 0 := if_pos ⟨h1, h2⟩
section
variable {A : FsA} {id : Int} {b n : Nat} {f : Fil} {room : Int}
/-- One segment, made. -/
def madeA (room : Int) (s : ByteArray) (b : Nat) : FsA := { (createA (newA room) s b).1 with count := (createA (newA room) s b).1.count + 1, sure := (createA (newA room) s b).1.now, since := [] }
theorem seg_create (h1 : 1 ≤ id) (h2 : id ≤ 2147483647) (r1 : 1 ≤ room) (r2 : room ≤ 1048576) (b : Nat) :
    segCreateA (newA room) id b = (madeA room (nameV id) b, 0) ∧ One (madeA room (nameV id) b) (nameV id) b ⟨0, [], 0⟩ room 6 ∧ (madeA room (nameV id) b).sure = oneD (nameV id) b ∧ (madeA room (nameV id) b).since = [] := by
  have hs := nameB_nameV h1 h2
  have hsz := nameV_size id
  have hcr := create_calm (A := newA room) ⟨rfl, rfl⟩ hs rfl (by show 0 < 64; omega) b
  have hI := (Inv.new room r1 r2).createCalm (s := nameV id) (by omega) b
  have hseg : segCreateA (newA room) id b = dirA (createA (newA room) (nameV id) b).1 := by
    unfold segCreateA
    rw [codeN_ok h1 h2, if_pos rfl, hcr, if_pos rfl]
  refine ⟨?_, ⟨?_, ?_, hs, ?_, ?_, ?_⟩, ?_, rfl⟩
  · rw [hseg, hcr, dir_calm ⟨rfl, rfl⟩]
    unfold madeA
    rw [hcr]
  · have := (hI.count.dir).mono (show 0 + 3 + 1 ≤ 6 by omega)
    unfold madeA; rw [hcr]; exact this
  · unfold madeA; rw [hcr]; exact ⟨rfl, rfl⟩
  · unfold madeA; rw [hcr]; rfl
  · unfold madeA; rw [hcr]; show (if b = b then _ else _) = _; rw [if_pos rfl]; rfl
  · unfold madeA; rw [hcr]; rfl
  · unfold madeA; rw [hcr]; rfl
theorem seg_append {k : Int} {p : List Int} (h1 : 1 ≤ id) (h2 : id ≤ 2147483647) (h : One A (nameV id) b f room n) (k1 : 1 ≤ k) (k2 : k ≤ 9) (hl : f.data.length + p.length + 9 ≤ 65536) (hp : p.length ≤ 8192) (hr : (f.data.length : Int) + p.length + 9 ≤ room) :
    ∃ A', segAppendA A id k p = (A', 0) ∧ One A' (nameV id) b { f with data := f.data ++ Fr.frameI k p, sure := f.data.length + p.length + 9 } room (n + 2) ∧ A'.sure = A.sure ∧ A'.since = A.since := by
  have hfl := Fr.frameI_length k p
  have hec : encC k p.length = 0 := by unfold encC; rw [if_pos ⟨k1, k2⟩, if_pos hp]
  have happ := append_calm h.calm (p := Fr.frameI k p) h.name h.get h.file (by omega) (by rw [h.used, h.room, hfl]; omega)
  have h3 := h.set (f' := { f with data := f.data ++ Fr.frameI k p }) (by simp; omega) (by have := (h.inv.short b f h.file).2; simp; omega) rfl
  have hsy := sync_calm h3.calm h3.name h3.get h3.file
  have h4 := h3.set (f' := { f with data := f.data ++ Fr.frameI k p, sure := f.data.length + p.length + 9 }) (by simp; omega) (by simp; omega) rfl
  refine ⟨_, ?_, h4, rfl, rfl⟩
  unfold segAppendA
  rw [codeN_ok h1 h2, if_pos rfl, hec, if_pos rfl, happ, if_pos rfl, hsy]
  simp only [List.length_append, hfl, Nat.add_assoc]
theorem One.read (h : One A (nameV id) b f room n) : readA A (nameV id) = (f.data, 0) := by
  unfold readA
  rw [findA_some h.name h.get, if_pos rfl]
  simp [h.file]
end
/-- What is read of none, and of one more. -/
theorem ReadsA.inv {A : FsA} {l : List Int} {es : List (Int × Int × List Int)} {b : Bool} (h : ReadsA A l es b) : (l = [] ∧ es = [] ∧ b = true) ∨
    ∃ ids es0 b0 id fs m, l = ids ++ [id] ∧ ReadsA A ids es0 b0 ∧ (readA A (nameV id)).2 = 0 ∧ Fr.Scanned (readA A (nameV id)).1 fs m ∧ es = es0 ++ idF id fs ∧ b = decide (m = (readA A (nameV id)).1.length) := by
  cases h with
  | nil => exact .inl ⟨rfl, rfl, rfl⟩
  | snoc h1 h2 h3 => exact .inr ⟨_, _, _, _, _, _, rfl, h1, h2, h3, rfl, rfl⟩
theorem ReadsA.one {A : FsA} {id : Int} {es : List (Int × Int × List Int)} {b : Bool} (h : ReadsA A [id] es b) : ∃ fs m, (readA A (nameV id)).2 = 0 ∧ Fr.Scanned (readA A (nameV id)).1 fs m ∧ es = idF id fs ∧ b = decide (m = (readA A (nameV id)).1.length) := by
  rcases h.inv with ⟨h0, _⟩ | ⟨ids, es0, b0, id', fs, m, he, h1, h2, h3, h4, h5⟩
  · cases h0
  · have hx : ids = [] ∧ id' = id := by
      cases ids with
      | nil => simp at he; exact ⟨rfl, he.symm⟩
      | cons a r => simp at he
    obtain ⟨rfl, rfl⟩ := hx
    rcases h1.inv with ⟨_, e0, _⟩ | ⟨ids, _, _, _, _, _, he, _⟩
    · subst e0; exact ⟨fs, m, h2, h3, by simpa using h4, h5⟩
    · cases ids <;> simp at he
end Go.Proofs.YtigbgajelkknbaaGreatDoor
namespace Go.Proofs.YtigbgajelkknbaaGreatDoor
open Go.RowKit
set_option maxRecDepth 100000
set_option maxRecDepth 100000

theorem name12 : nameV 12 = ⟨#[115, 101, 103, 45, 49, 50]⟩ := by
  apply ByteArray.ext
  apply Array.toList_inj.1
  rw [nameV_list (by omega) (by omega), show (12 : Int).toNat = 12 from rfl, Lib.decDigits, dif_neg (by omega), Lib.decDigits, dif_pos (by omega)]
  rfl
theorem none012 : IdOf ⟨#[115, 101, 103, 45, 48, 49, 50]⟩ 0 := by
  refine idOf_none fun j j1 j2 h e => ?_
  have h12 : Lib.atoiAll (tailL ⟨#[115, 101, 103, 45, 48, 49, 50]⟩) = .ok 12 := by decide +kernel
  rw [h12] at h
  injection h with h
  subst h
  rw [name12] at e
  exact absurd e (by decide)
theorem byt_x : Fr.Byt [120] := fun z hz => by rw [List.mem_singleton] at hz; subst hz; exact ⟨by decide, by decide⟩
/-- The front of one frame is that frame. -/
theorem scan_one {k : Int} {p : List Int} (k1 : 1 ≤ k) (k2 : k ≤ 9) (hy : Fr.Byt p) (hl : p.length ≤ 8192) : Fr.Scanned (Fr.frameI k p) [(k, p)] (p.length + 9) := by
  have h := Fr.nextF_frame (x := []) k1 k2 hy hl Fr.Byt.nil
  rw [List.append_nil] at h
  have h2 : Fr.Scanned ((Fr.frameI k p).drop (p.length + 9)) [] 0 := by
    rw [List.drop_of_length_le (by rw [Fr.frameI_length]; exact Nat.le_refl _)]
    exact .stop (Fr.nextF_short (.inl (by simp)))
  have := Fr.Scanned.step h h2
  rwa [Nat.add_zero] at this
set_option maxHeartbeats 8000000 in
theorem awake4_any (w : World) (hl : NumL w) : Calls Tryz.prog 9 #[] w fun e w' => e = .returned (.bool true) ∧ Below w.heap.size w w' := by
  have HL := Lib.hid hl
  have HN := Lib.hid (name_any 12 w hl.tab)
  rw [name12, codeN_ok (by omega) (by omega)] at HN
  have kc := fun (w : World) (C : Array Value) (n c : Nat) => Lib.run_convert_bytes_const (P := Tryz.prog) w 37 5 C n c Tryz.underlying37 Tryz.underlying5
  clear hl
  go_enter Tryz.func9, Tryz.ntmps9
  go_wp2_with fail
  refine HN.out.mono ?_; rintro e w1 ⟨rfl, hb1⟩
  have HB1 := Lib.hid hb1
  clear hb1
  go_wp2_with fail
  refine (id_any ⟨#[115, 101, 103, 45, 48, 49, 50]⟩ w1 (by decide) (HL.out.below HB1.out)).mono ?_; rintro e w2 ⟨k, rfl, hk, hb2⟩
  obtain rfl := hk.unique none012
  have HB2 := Lib.hid (HB1.out.trans (hb2.mono HB1.out.size))
  clear hb2 hk
  rw [show decide ((0 : Int) < 0) = false from rfl]
  go_wp2_with fail
  refine (new_pf 1000 (by omega) (by omega) HB2.out).mono ?_; rintro e w3 ⟨g, S, rfl, hpf, hb3⟩
  have HPF := Lib.hid hpf
  clear hpf hb3
  go_wp2_with fail
  refine (segCreate_pf 1 HPF.out (Inv.new 1000 (by omega) (by omega)) (by omega) HL.out.tab).mono ?_; rintro e w4 ⟨b, _, S4, rfl, hpf4, hadv4⟩
  obtain ⟨hsc, hone, _, _⟩ := seg_create (id := 1) (room := 1000) (by omega) (by omega) (by omega) (by omega) b
  have hby4 := (ByA.new 1000).segCreate 1 b
  rw [hsc] at hpf4 hby4 ⊢
  simp only at hpf4 hby4 ⊢
  have HP4 := Lib.hid hpf4
  have HO4 := Lib.hid hone
  have HI4 := Lib.hid hone.inv
  obtain ⟨A4, hA4⟩ : ∃ A4, A4 = madeA 1000 (nameV 1) b := ⟨_, rfl⟩
  rw [← hA4] at HP4 HO4 HI4 hby4
  have HY4 := Lib.hid hby4
  clear hsc hone hpf4 hadv4 hA4 HPF hby4
  go_wp2_with fail
  refine calls_world fun w5 hw5 => ?_
  have hb45 : Below w4.heap.size w4 w5 := by rw [hw5]; exact ((Below.refl _ _).alloc (Nat.le_refl _) _).alloc (by simp) _
  have hpt : Fr.Parts w5 (.slice (some ⟨w4.heap.size + 1, 0, none⟩) 1 1) [[120]] := by
    rw [hw5]
    have e1 : ((w4.alloc (.cells #[.int .u8 120] 5 (1, 2))).alloc (.cells #[.slice (some ⟨w4.heap.size, 0, none⟩) 1 1] 37)).heap[w4.heap.size + 1]? = some (.cells #[.slice (some ⟨w4.heap.size, 0, none⟩) 1 1] 37 (0, 0)) := by
      have := heap_alloc_new (w4.alloc (.cells #[.int .u8 120] 5 (1, 2))) (.cells #[.slice (some ⟨w4.heap.size, 0, none⟩) 1 1] 37)
      rwa [World.size_alloc] at this
    have e2 : ((w4.alloc (.cells #[.int .u8 120] 5 (1, 2))).alloc (.cells #[.slice (some ⟨w4.heap.size, 0, none⟩) 1 1] 37)).heap[w4.heap.size]? = some (.cells #[.int .u8 120] 5 (1, 2)) := by
      rw [Below.heap_alloc _ _ _ (by simp)]
      exact heap_alloc_new w4 _
    refine .inr ⟨w4.heap.size + 1, 0, 1, rfl, heap_lt e1, fun i hi => ?_⟩
    have h0 : i = 0 := by simpa using hi
    subst h0
    refine ⟨_, cell_of_row _ _ 0 _ _ _ e1, .inl (.inr ⟨w4.heap.size, 0, 1, rfl, Nat.le_refl _, heap_lt e2, fun j u hu => ?_⟩)⟩
    rw [Nat.zero_add, cell_of_row _ _ j _ _ _ e2]; simpa using hu
  have hap := segAppend_pf 1 2 _ [[120]] (HP4.out.below hb45) HI4.out (by omega) HL.out.tab hpt (by simp) (fun i hi => by
    have h0 : i = 0 := by simpa using hi
    subst h0
    exact ⟨by simp, byt_x⟩)
  rw [show ([[120]] : List (List Int)).flatten = [120] from rfl] at hap
  obtain ⟨A6, hse, hone6, _, _⟩ := seg_append (id := 1) (k := 2) (p := [120]) (by omega) (by omega) HO4.out (by omega) (by omega) (by simp) (by simp) (by simp)
  have hby6 := HY4.out.segAppend 1 (k := 2) byt_x
  rw [hse] at hap hby6
  have HAP := Lib.hid hap
  have HY6 : Hid (ByA A6) := hby6
  have HO6 := Lib.hid hone6
  clear hw5 hb45 hpt hap hse hone6 hby6 HP4 HO4 HY4
  refine HAP.out.mono ?_; rintro e w6 ⟨S6, rfl, hpf6, hadv6⟩
  have HP6 := Lib.hid hpf6
  clear hpf6 hadv6 HAP
  go_wp2_with fail
  refine calls_world fun w7 hw7 => ?_
  have hb67 : Below w6.heap.size w6 w7 := by rw [hw7]; exact (Below.refl _ _).alloc (Nat.le_refl _) _
  have hin : Ints w7 (.slice (some ⟨w6.heap.size, 0, none⟩) 1 1) [1] := by
    have hb := Blk.new w6 3 [.int .i64 1]
    rw [hw7]
    exact .inr ⟨w6.heap.size, 0, 1, rfl, hb.lt, hb.range 0 _ fun j v hv => by rw [Nat.zero_add]; exact hv⟩
  refine (segRead_pf _ [1] (HP6.out.below hb67) HO6.out.inv HY6.out HL.out.tab hin (by simp)).mono ?_
  rintro e w8 ⟨hb8, h⟩
  have HB8 : Hid (Below w.heap.size w w8) := ((HP6.out.below hb67).below hb8).base
  obtain ⟨v, es, bb, rfl, hrd, hen⟩ : ∃ v es bb, e = .returned (.tuple #[v, .bool bb, .int .i64 0]) ∧ ReadsA A6 [1] (plainE es) bb ∧ Ents w8 w7.heap.size v es := by
    rcases h with ⟨⟨id, hid, hbad⟩, _⟩ | ⟨_, ⟨v, es, bb, he, hr, hn, _⟩ | ⟨i, _, _, hi, _, hbad, _⟩⟩
    · rw [List.mem_singleton] at hid
      subst hid
      exact absurd (codeN_ok (by omega) (by omega)) hbad
    · exact ⟨v, es, bb, he, hr, hn⟩
    · have h0 : i = 0 := by simpa using hi
      subst h0
      have hr := HO6.out.read
      exact absurd (by rw [show ([1] : List Int).getD 0 0 = 1 from rfl, hr]) hbad
  obtain ⟨fs, m, _, hsn, hpe, hbb⟩ := hrd.one
  rw [HO6.out.read] at hsn hbb
  simp only [List.nil_append] at hsn hbb
  obtain ⟨rfl, rfl⟩ := hsn.same (scan_one (by omega) (by omega) byt_x (by simp))
  have hbt : bb = true := hbb.trans (decide_eq_true (Fr.frameI_length 2 [120]).symm)
  clear hbb
  subst hbt
  match es, hpe, hen with
  | [(e1, e2, e3, u)], hpe, hen =>
    simp only [plainE, idF, List.map_cons, List.map_nil, List.cons.injEq, Prod.mk.injEq, and_true] at hpe
    obtain ⟨rfl, rfl, rfl⟩ := hpe
    obtain ⟨va, vc, rfl⟩ := hen.slice
    obtain ⟨q, rfl, _, _, hcl⟩ := ownsRow_at hen.own (by simp)
    have hpay : Fr.OwnB w8 w7.heap.size u [120] := hen.pay (1, 2, [120], u) (by simp)
    obtain ⟨ua, uc, rfl⟩ := hpay.slice
    have c0 : w8.cell? ⟨q, 0, none⟩ = some (.int .i64 1) := hcl 0 _ rfl
    have c1 : w8.cell? ⟨q, 1, none⟩ = some (.int .i64 2) := hcl 1 _ rfl
    have c2 : w8.cell? ⟨q, 2, none⟩ = some (.slice ua 1 uc) := hcl 2 _ rfl
    have hcv := run_string (OwnD.bytes hpay)
    have hcv' : (convert 37 9 (.slice ua 1 uc)).run Tryz.prog w8 = .ok (.string ⟨#[120]⟩) w8 := hcv
    clear hcv hpay hcl hen h hb8 hrd hsn hw7 hb67 hin
    go_wp2_with fail
    go_ret
    exact ⟨rfl, HB8.out⟩
end Go.Proofs.YtigbgajelkknbaaGreatDoor
