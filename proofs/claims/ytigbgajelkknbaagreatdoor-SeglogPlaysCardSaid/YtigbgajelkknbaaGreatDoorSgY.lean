/- SeglogPlays: the reference's 'Read' of segments: walked. -/
import Derived.Test.YtigbgajelkknbaaGreatDoorSgQ
namespace Go.Proofs.YtigbgajelkknbaaGreatDoor
open Go.RowKit
set_option maxRecDepth 100000

theorem entInfoQ : (Tryz.prog.info? 149).map (fun i => (i.zero, i.size, i.bytes)) = some (some (.agg #[.int .i64 0, .int .i64 0, .string ⟨#[]⟩]), 3, 32) := by kernel_rfl
/-- One entry more, in a region that draws its order. -/
theorem step_append_ent {ops : Array Oper} {o : Oper} {a : Act} {w : World} {K : Act → World → Prop} {Q : Exit → Act → World → Prop} {E : Prop} (hgd : o.guard = none) (s x : Operand)
    (ho : o.op = .call { callee := .builtin .append, args := #[s, x], argTypes := #[54, 54] })
    (base : Nat) (v : Value) (es : List (Int × Int × List Int)) (hs : a.eval s = v) (hown : EntQ w base v es) (b : Nat) (hx : a.eval x = .slice (some ⟨b, 0, none⟩) 1 1) (id k : Int) (T : ByteArray) (p : List Int) (hT : T = strOfNums p)
    (hb : Blk w b 149 [.int .i64 id, .int .i64 k, .string T]) (hle : es.length ≤ 100000000) (hbase : base ≤ w.heap.size)
    (h : ∀ v' w', EntQ w' base v' (es ++ [(id, k, p)]) → w.grownBy w' v.ownBlock → K (a.put o.dst v') w') : if Region.wanted o (yielded ops a.tmps) = true then Oper.wp Tryz.prog o a w K Q else E := by
  obtain ⟨i0, hi, hz0, hz1, hz2⟩ := info_parts entInfoQ
  refine step_plain' hgd (wp_append_own w s x 54 ho base 149 i0 (.agg #[.int .i64 0, .int .i64 0, .string ⟨#[]⟩]) 3 32 Tryz.underlying54 hi hz0 hz1 hz2 rfl (by decide) v es.length (cellsQ es) hs hown ⟨b, 0, none⟩ 1 1 [.int .i64 id, .int .i64 k, .string T] hx
      rfl (fun j u hu => by rw [Addr.add_mid, Nat.zero_add]; exact hb.cell hu) (fun u hu => by
        simp only [List.mem_cons, List.not_mem_nil, or_false] at hu
        rcases hu with rfl | rfl | rfl <;> rfl) (by unfold maxLen; omega) (by omega) hbase ?_)
  intro v' w' h1 h2 _
  refine h v' w' ?_ h2
  unfold EntQ
  rw [List.length_append, cellsQ_append]
  subst hT
  exact h1
/-- What the reference's 'Read' answers. -/
def RefReadQ (w : World) (A : FsA) (ids : List Int) (e : Ending) (w' : World) : Prop :=
  Below w.heap.size w w' ∧
  (((∃ id ∈ ids, codeN id ≠ 0) ∧ e = .returned (.tuple #[.slice none 0 0, .bool false, .int .i64 1])) ∨
   ((∀ id ∈ ids, codeN id = 0) ∧
    ((∃ v es b, e = .returned (.tuple #[v, .bool b, .int .i64 0]) ∧ ReadsA A ids es b ∧ EntQ w' w.heap.size v es ∧ es.length ≤ ids.length * 10000) ∨
     (∃ i es b, i < ids.length ∧ ReadsA A (ids.take i) es b ∧ (readA A (nameV (ids.getD i 0))).2 ≠ 0 ∧ e = .returned (.tuple #[.slice none 0 0, .bool false, .int .i64 (readA A (nameV (ids.getD i 0))).2])))))
set_option maxHeartbeats 16000000 in
theorem refSegRead_any {P : Nat → Prop} (v vi : Value) (R : RSt) (A : FsA) (ids : List Int) (w : World) (h : RFs P w v R) (hk : ROk R) (hw : RWell R) (hrd : ∀ id, readR R (nameV id) = (strOfNums (readA A (nameV id)).1, (readA A (nameV id)).2))
    (hpr : ∀ id, (readA A (nameV id)).1.length ≤ 65536 ∧ Fr.Byt (readA A (nameV id)).1) (hv : Ints w vi ids) (hl : ids.length ≤ 1000) :
    Calls Tryz.prog 21 #[v, vi] w (RefReadQ w A ids) := by
  obtain ⟨va, vc, rfl⟩ := hv.slice
  have HV := Lib.hid hv
  have HRR := Lib.hid (fun (w1 : World) (v1 : Value) (Q : Nat → Prop) (id : Int) (h1 : RFs Q w1 v1 R) => refRead_any v1 R (nameV id) w1 h1 hk hw (by have := nameV_size id; omega))
  have HRD := Lib.hid hrd
  have HPR := Lib.hid hpr
  obtain ⟨m, hm⟩ : ∃ m, m = ids.length := ⟨_, rfl⟩
  have HM := Lib.hid hm
  have HL := Lib.hid (show m ≤ 1000 by omega)
  rw [← hm]
  obtain ⟨fa, fc, da, dc, sa, sc, ca, cc, pa, pc, cvs, rfl, -⟩ := h.parts
  have HH := Lib.hid h
  clear h hk hw hrd hpr hv hl hm
  go_enter Tryz.func21, Tryz.ntmps21
  go_wp2_with fail
  refine wp_world fun w0 hw0 => ?_
  have hB0 : Below w.heap.size w w0 := by rw [hw0]; exact (Below.refl _ _).alloc (Nat.le_refl _) _
  have hK0 : Blk w0 w.heap.size 33 [.int .i64 R.room, .slice fa R.files.length fc, .slice da R.dir.length dc, .slice sa R.sure.length sc, .slice ca R.changes.length cc, .int .i64 R.steps, .int .i64 R.left, .slice pa R.plan.length pc] := by rw [hw0]; exact Blk.new w 33 [.int .i64 R.room, .slice fa R.files.length fc, .slice da R.dir.length dc, .slice sa R.sure.length sc, .slice ca R.changes.length cc, .int .i64 R.steps, .int .i64 R.left, .slice pa R.plan.length pc]
  clear hw0
  have HB0 := Lib.hid hB0
  have HK0 := Lib.hid hK0
  clear hB0 hK0
  go_loopw [7, 8, 9, 22] (fun _ _ _ s22 wr => ∃ i : Nat, i ≤ m ∧ s22 = .int .i64 i ∧ (∀ id ∈ ids.take i, codeN id = 0) ∧ Below w0.heap.size w0 wr)
    (fun _ _ _ s22 _ => m - (intOf s22).toNat)
  case atStart => exact ⟨0, Nat.zero_le _, rfl, fun id hid => by simp at hid, Below.refl _ _⟩
  case round =>
    obtain ⟨i, hi, rfl, hall, hb⟩ := hrel
    have HALL := Lib.hid hall
    have HB := Lib.hid hb
    have hl1 := HL.out
    clear hall hb
    have HBW : Hid (Below w.heap.size w wr) := HB0.out.trans (HB.out.mono HB0.out.size)
    by_cases hlt : i < m
    · have l1 : (i : Int) < m := by omega
      obtain ⟨pb, po, hva, hpb, hci⟩ := HV.out.cells (by have := HM.out; omega)
      subst hva
      have c1 : wr.cell? ⟨pb, po + i, none⟩ = some (.int .i64 (ids.getD i 0)) := (HBW.out.cell (p := ⟨pb, po + i, none⟩) hpb).trans (hci i (by have := HM.out; omega))
      have HNM := Lib.hid (refName_any (ids.getD i 0) wr)
      have HCO := Lib.hid (codeN_or (ids.getD i 0))
      have HMEM := Lib.hid (getD_mem (l := ids) (i := i) (by have := HM.out; omega))
      have HTK := Lib.hid (take_succ_getD (l := ids) (i := i) (by have := HM.out; omega))
      obtain ⟨id, hid⟩ : ∃ id, id = ids.getD i 0 := ⟨_, rfl⟩
      rw [← hid] at c1 HNM HCO HMEM HTK
      clear hci hid
      go_wp2_with fail
      refine HNM.out.mono ?_; rintro e w2 ⟨rfl, hb2⟩
      have HB2 := Lib.hid (HB.out.trans (hb2.mono HB.out.size))
      clear hb2 c1 HNM
      rcases HCO.out with hc | hc
      · have HC := Lib.hid hc
        rw [hc]
        clear hc
        go_wp2_with fail
        go_roundw
        case rel =>
          refine ⟨i + 1, by omega, by go_num, fun x hx => ?_, HB2.out⟩
          rw [HTK.out] at hx
          rcases List.mem_append.1 hx with hx | hx
          · exact HALL.out x hx
          · rw [List.mem_singleton] at hx; subst hx; exact HC.out
        case measure => simp [intOf]; omega
      · have HC : Hid (codeN id ≠ 0) := by show _ ≠ _; rw [hc]; decide
        rw [hc]
        clear hc
        go_wp2_with fail
        exact bodyPost_ret (v := .tuple #[.slice none 0 0, .bool false, .int .i64 1]) (by simp [results, Tryz.results21, go_sem]) rfl ⟨HB0.out.trans (HB2.out.mono HB0.out.size), .inl ⟨⟨id, HMEM.out, HC.out⟩, rfl⟩⟩
    · have l1 : ¬ (i : Int) < m := by omega
      obtain rfl : i = m := by omega
      have HAL : Hid (∀ id ∈ ids, codeN id = 0) := fun x hx => HALL.out x (by rw [HM.out, List.take_length]; exact hx)
      obtain ⟨w1, hw1⟩ : ∃ w1, w1 = wr := ⟨_, rfl⟩
      rw [← hw1] at HB HBW
      try rw [← hw1]
      have HK1 := Lib.hid (blk_on HB.out HK0.out)
      clear hw1 hlt HALL HB HK0 HB0
      go_wp2_with fail
      go_loopw [10, 11, 12, 13, 14, 15, 16, 17, 18, 19, 39] (fun s10 s11 _ _ _ _ _ _ _ _ s39 wr => ∃ (j : Nat) (es : List (Int × Int × List Int)) (b : Bool) (ea : Option Addr) (en ec : Nat), j ≤ i ∧ s39 = .int .i64 j ∧ s11 = .bool b ∧ s10 = .slice ea en ec ∧ en = es.length ∧ EntQ wr w1.heap.size s10 es ∧ ReadsA A (ids.take j) es b ∧ es.length ≤ j * 10000 ∧ Below w1.heap.size w1 wr)
        (fun _ _ _ _ _ _ _ _ _ _ s39 _ => i - (intOf s39).toNat)
      case atStart => exact ⟨0, [], true, none, 0, 0, Nat.zero_le _, rfl, rfl, rfl, rfl, EntQ.nil _ _, ReadsA.nil, Nat.zero_le _, Below.refl _ _⟩
      case round =>
        obtain ⟨j, es, b, ea, en, ec, hj, rfl, rfl, rfl, hen, hE, hR, hel, hB⟩ := hrel
        have HEN := Lib.hid hen
        have HE := Lib.hid hE
        have HR := Lib.hid hR
        have HEL := Lib.hid hel
        have HB := Lib.hid hB
        clear hen hE hR hel hB
        by_cases hlt : j < i
        · have l1 : (j : Int) < i := by omega
          have hl1 := HL.out
          obtain ⟨pb, po, hva, hpb, hci⟩ := HV.out.cells (by have := HM.out; omega)
          subst hva
          have HCI : Hid (∀ W, Below w1.heap.size w1 W → W.cell? ⟨pb, po + j, none⟩ = some (.int .i64 (ids.getD j 0))) := fun W hW => ((HBW.out.trans (hW.mono HBW.out.size)).cell (p := ⟨pb, po + j, none⟩) hpb).trans (hci j (by have := HM.out; omega))
          have HTK := Lib.hid (take_succ_getD (l := ids) (i := j) (by have := HM.out; omega))
          obtain ⟨id, hid⟩ : ∃ id, id = ids.getD j 0 := ⟨_, rfl⟩
          have HID := Lib.hid hid
          rw [← hid] at HCI HTK
          have c1 := HCI.out wr HB.out
          have HNM := Lib.hid (refName_any id wr)
          clear hci hid
          go_wp2_with fail
          refine HNM.out.mono ?_; rintro e w2 ⟨rfl, hb2⟩
          have HR2 := Lib.hid hb2
          have HB2 := Lib.hid (HB.out.trans (hb2.mono HB.out.size))
          have hk2 := blk_on HB2.out HK1.out
          obtain ⟨x0, x1, x2, x3, x4, x5, x6, x7, -⟩ := hk2.fs
          have HRA := Lib.hid (HRR.out w2 _ _ id (HH.out.below (HBW.out.trans (HB2.out.mono HBW.out.size))))
          rw [HRD.out id] at HRA
          obtain ⟨rd, hrd⟩ : ∃ rd, rd = readA A (nameV id) := ⟨_, rfl⟩
          have HRE := Lib.hid hrd
          have hpr := HPR.out id
          rw [← hrd] at HRA hpr
          obtain ⟨data, code⟩ := rd
          simp only at HRA hpr
          have HDL := Lib.hid hpr
          clear hb2 c1 HNM hrd hpr hk2
          go_wp2_with fail
          refine HRA.out.mono ?_; rintro e w3 ⟨rfl, hb3⟩
          have HR3 := Lib.hid (HR2.out.trans (hb3.mono HR2.out.size))
          clear hb3 x0 x1 x2 x3 x4 x5 x6 x7 HRA HR2 HB2
          by_cases hc : code = 0
          · subst hc
            have HSC := Lib.hid (Fr.refScan_any data w3 HDL.out.2 (by have := HDL.out.1; omega))
            have hsz : (strOfNums data).size = data.length := strOfNums_size data
            obtain ⟨S, hS⟩ : ∃ S, S = strOfNums data := ⟨_, rfl⟩
            rw [← hS] at HSC hsz
            try rw [← hS]
            have HSZ := Lib.hid hsz
            clear hS hsz
            go_wp2_with fail
            refine HSC.out.mono ?_; rintro e w4 ⟨v4, fs, mf, rfl, hsc, hfr, hb4⟩
            obtain ⟨v4a, v4c, rfl⟩ : ∃ a c, v4 = .slice a fs.length c := own_slice hfr
            have hxl : fs.length ≤ 10000 ∧ mf ≤ 65536 := by
              have := hsc.len HDL.out.2
              have h9 := HDL.out.1
              omega
            have hR4 : Below wr.heap.size wr w4 := HR3.out.trans (hb4.mono HR3.out.size)
            have HE4 : Hid (EntQ w4 w1.heap.size (.slice ea en ec) es) := own_stay HE.out fun k hk _ => hR4.block k hk
            have HB4 := Lib.hid (HB.out.trans (hR4.mono HB.out.size))
            have hfr' : w4.ownsRow w3.heap.size 147 2 (.slice v4a fs.length v4c) fs.length (Fr.cellsR fs) := hfr
            obtain ⟨fn, hfn⟩ : ∃ fn, fn = fs.length := ⟨_, rfl⟩
            rw [← hfn] at hxl hfr' ⊢
            have HFN := Lib.hid hfn
            have HXL := Lib.hid hxl
            have HSCN := Lib.hid hsc
            have HFR := Lib.hid hfr'
            clear hfn hxl hsc hfr hfr' hR4 hb4 HSC HE HR3
            go_wp2_with fail
            go_loopw [10, 19, 66] (fun s10 _ s66 wq => ∃ (k : Nat) (ga : Option Addr) (gn gc : Nat), k ≤ fn ∧ s66 = .int .i64 k ∧ s10 = .slice ga gn gc ∧ gn = (es ++ idF id (fs.take k)).length ∧ EntQ wq w1.heap.size s10 (es ++ idF id (fs.take k)) ∧ wq.ownsRow w3.heap.size 147 2 (.slice v4a fn v4c) fn (Fr.cellsR fs) ∧ Below w1.heap.size w1 wq)
              (fun _ _ s66 _ => fn - (intOf s66).toNat)
            case atStart => exact ⟨0, ea, en, ec, Nat.zero_le _, rfl, rfl, by simpa [idF] using HEN.out, by simpa [idF] using HE4.out, HFR.out, HB4.out⟩
            case round =>
              clear HE4 HFR
              obtain ⟨k, ga, gn, gc, hk, rfl, rfl, hgn, hE5, hF5, hB5⟩ := hrel
              have HGN := Lib.hid hgn
              have HE5 := Lib.hid hE5
              have HF5 := Lib.hid hF5
              have HB5 := Lib.hid hB5
              clear hgn hE5 hF5 hB5
              have hfn1 := HXL.out.1
              by_cases hkn : k < fn
              · have l2 : (k : Int) < fn := by omega
                obtain ⟨q, rfl, _, hql, hcl⟩ := ownsRow_at HF5.out (by omega)
                obtain ⟨t, ht⟩ : ∃ t, fs[k]? = some t := ⟨_, List.getElem?_eq_getElem (by rw [← HFN.out]; exact hkn)⟩
                obtain ⟨kk, p⟩ := t
                obtain ⟨e0, e1⟩ := Fr.cellsR_get fs k _ ht
                have d0 : wr.cell? ⟨q, k * 2, none⟩ = some (.int .i64 kk) := hcl _ _ (by rw [show k * 2 = 2 * k by omega]; exact e0)
                have d1 : wr.cell? ⟨q, k * 2 + 1, none⟩ = some (.string (strOfNums p)) := hcl _ _ (by rw [show k * 2 + 1 = 2 * k + 1 by omega]; exact e1)
                have c1 := HCI.out wr HB5.out
                have HTF : Hid (es ++ idF id (fs.take (k + 1)) = (es ++ idF id (fs.take k)) ++ [(id, kk, p)]) := by
                  show _ = _
                  have hl2 := (List.getElem?_eq_some_iff.1 ht).1
                  rw [List.take_succ_eq_append_getElem hl2, (List.getElem?_eq_some_iff.1 ht).2, List.append_assoc]
                  unfold idF
                  rw [List.map_append]; rfl
                obtain ⟨T, hT⟩ : ∃ T, T = strOfNums p := ⟨_, rfl⟩
                rw [← hT] at d1
                have HT := Lib.hid hT
                obtain ⟨ES, hES⟩ : ∃ ES, ES = es ++ idF id (fs.take k) := ⟨_, rfl⟩
                rw [← hES] at HGN HE5 HTF
                have HESL : Hid (ES.length ≤ 100000000) := by
                  show _ ≤ _
                  rw [hES, List.length_append, idF_length, List.length_take]
                  have := HEL.out
                  have := hl1
                  omega
                have HES := Lib.hid hES
                have HSW : Hid (w1.heap.size ≤ (wr.drew.alloc (.cells #[.int .i64 id, .int .i64 kk, .string T] 149)).heap.size) := Nat.le_trans HB5.out.size (by simp)
                have HNB : Hid (Blk (wr.drew.alloc (.cells #[.int .i64 id, .int .i64 kk, .string T] 149)) wr.heap.size 149 [.int .i64 id, .int .i64 kk, .string T]) := Blk.new wr.drew 149 [.int .i64 id, .int .i64 kk, .string T]
                have HO5 : Hid (EntQ (wr.drew.alloc (.cells #[.int .i64 id, .int .i64 kk, .string T] 149)) w1.heap.size (.slice ga gn gc) ES) := World.ownsRow.alloc (w := wr.drew) HE5.out _
                have HSK : Hid (∀ W, Below wr.heap.size wr W → (W.cell? ⟨pb, po + j, none⟩ = some (.int .i64 id) ∧ W.cell? ⟨q, k * 2, none⟩ = some (.int .i64 kk) ∧ W.cell? ⟨q, k * 2 + 1, none⟩ = some (.string T))) := fun W hW =>
                  ⟨HCI.out W (HB5.out.trans (hW.mono HB5.out.size)), (hW.cell (p := ⟨q, k * 2, none⟩) hql).trans d0, (hW.cell (p := ⟨q, k * 2 + 1, none⟩) hql).trans d1⟩
                have HBN : Hid (∀ W, (wr.drew.alloc (.cells #[.int .i64 id, .int .i64 kk, .string T] 149)).grownBy W (Value.slice ga gn gc).ownBlock → Below w1.heap.size w1 W) := fun W hg =>
                  (HB5.out.drew.alloc (w := wr.drew) HB5.out.size _).grown hg HSW.out fun x hx => (HE5.out.lt x hx).1
                have HQK : Hid (∀ W, (wr.drew.alloc (.cells #[.int .i64 id, .int .i64 kk, .string T] 149)).grownBy W (Value.slice ga gn gc).ownBlock → ∀ x, x < wr.heap.size → (Value.slice ga gn gc).ownBlock ≠ some x → W.heap[x]? = wr.heap[x]?) := fun W hg x hx hne =>
                  (hg.block x (by simp; omega) fun e => hne e.symm).trans (Below.heap_alloc wr.drew _ x hx)
                have HAQ : Hid ((Value.slice ga gn gc).ownBlock ≠ some q) := own_apart HF5.out HE5.out (by decide) rfl
                have HFK : Hid (∀ W, (wr.drew.alloc (.cells #[.int .i64 id, .int .i64 kk, .string T] 149)).grownBy W (Value.slice ga gn gc).ownBlock → (W.cell? ⟨pb, po + j, none⟩ = some (.int .i64 id) ∧ W.cell? ⟨q, k * 2, none⟩ = some (.int .i64 kk) ∧ W.cell? ⟨q, k * 2 + 1, none⟩ = some (.string T))) := fun W hg =>
                  ⟨HCI.out W (HBN.out W hg), (World.cell?_of_block (w := wr) (a := ⟨q, k * 2, none⟩) (HQK.out W hg q hql HAQ.out)).trans d0, (World.cell?_of_block (w := wr) (a := ⟨q, k * 2 + 1, none⟩) (HQK.out W hg q hql HAQ.out)).trans d1⟩
                clear ht e0 e1 hcl hT hES hql c1 d0 d1
                go_upto_region 21 with fail
                go_region_held_law (fun W => W.cell? ⟨pb, po + j, none⟩ = some (.int .i64 id) ∧ W.cell? ⟨q, k * 2, none⟩ = some (.int .i64 kk) ∧ W.cell? ⟨q, k * 2 + 1, none⟩ = some (.string T)) (first | assumption | (exact HSK.out _ (Below.refl _ wr).drew) | (exact HFK.out _ hg') | (exact HSK.out _ ((Below.refl _ wr).drew.alloc (w := wr.drew) (Nat.le_refl _) _))) (first | (refine step_append_ent rfl (.tmp 69) (.tmp 79) rfl w1.heap.size (.slice ga gn gc) ES rfl HO5.out wr.heap.size rfl id kk T p HT.out HNB.out HESL.out HSW.out ?_; intro v' w' ho' hg'))
                obtain ⟨ga', gc', rfl⟩ := own_slice ho'
                have HBW' := Lib.hid (HBN.out _ hg')
                have HF6 : Hid (w'.ownsRow w3.heap.size 147 2 (.slice (some ⟨q, 0, none⟩) fn v4c) fn (Fr.cellsR fs)) := own_stay HF5.out fun x hx ex => HQK.out _ hg' x hx (by cases ex; exact HAQ.out)
                have HE6 : Hid (EntQ w' w1.heap.size (.slice ga' (ES ++ [(id, kk, p)]).length gc') (es ++ idF id (fs.take (k + 1)))) := by show EntQ _ _ _ _; rw [HTF.out]; exact ho'
                have HG6 : Hid ((ES ++ [(id, kk, p)]).length = (es ++ idF id (fs.take (k + 1))).length) := by show _ = _; rw [HTF.out]
                generalize (ES ++ [(id, kk, p)]).length = gn' at *
                clear ho' hg' HBN HQK HAQ HFK HSK HO5 HNB HSW
                go_wp2_with fail
                go_roundw
                case rel => exact ⟨k + 1, ga', gn', gc', by omega, by go_num, rfl, HG6.out, HE6.out, HF6.out, HBW'.out⟩
                case measure => simp [intOf]; omega
              · have l2 : ¬ (k : Int) < fn := by omega
                obtain rfl : k = fn := by omega
                have HTA : Hid (fs.take k = fs) := by show _ = _; rw [HFN.out, List.take_length]
                have HGN2 : Hid (gn = (es ++ idF id fs).length) := by show _ = _; rw [HGN.out, HTA.out]
                have HE6 : Hid (EntQ wr w1.heap.size (.slice ga gn gc) (es ++ idF id fs)) := by
                  have := HE5.out
                  rwa [HTA.out] at this
                have HRD2 : Hid (ReadsA A (ids.take (j + 1)) (es ++ idF id fs) (decide (mf = data.length))) := by
                  show ReadsA _ _ _ _
                  have h1 := ReadsA.snoc (id := id) HR.out (by rw [← HRE.out]) (by rw [← HRE.out]; exact HSCN.out)
                  rw [← HRE.out] at h1
                  rw [HTK.out]
                  exact h1
                have HEL2 : Hid ((es ++ idF id fs).length ≤ (j + 1) * 10000) := by
                  show _ ≤ _
                  rw [List.length_append, idF_length]
                  have := HEL.out
                  have := HXL.out.1
                  have := HFN.out
                  omega
                have hdec : ((mf : Int) == (S.size : Int)) = decide (mf = data.length) := by rw [HSZ.out]; exact eq_dec _ _
                clear hkn HE5 HGN HTA
                go_wp2_with fail
                go_roundw
                case rel => exact ⟨j + 1, es ++ idF id fs, decide (mf = data.length), ga, gn, gc, by omega, by go_num, by first | rfl | (rw [hdec]), rfl, HGN2.out, HE6.out, HRD2.out, HEL2.out, HB5.out⟩
                case measure => simp [intOf]; omega
          · have hc' : (code == 0) = false := by simpa using hc
            have HCN := Lib.hid hc
            have e2 : (readA A (nameV id)).2 = code := by rw [← HRE.out]
            have HE2 := Lib.hid e2
            have HBF : Hid (Below w.heap.size w w3) := HBW.out.trans ((HB.out.trans (HR3.out.mono HB.out.size)).mono HBW.out.size)
            clear hc e2
            go_wp2_with fail
            refine bodyPost_ret (v := .tuple #[.slice none 0 0, .bool false, .int .i64 code]) (by simp [results, Tryz.results21, go_sem]) rfl ⟨HBF.out, .inr ⟨HAL.out, .inr ⟨j, es, b, by rw [← HM.out]; exact hlt, HR.out, ?_, ?_⟩⟩⟩
            · rw [← HID.out, HE2.out]; exact HCN.out
            · rw [← HID.out, HE2.out]
        · have l1 : ¬ (j : Int) < i := by omega
          obtain rfl : j = i := by omega
          have HTA : Hid (ids.take j = ids) := by show _ = _; rw [HM.out, List.take_length]
          have HBF : Hid (Below w.heap.size w wr) := HBW.out.trans (HB.out.mono HBW.out.size)
          clear hlt
          go_wp2_with fail
          refine bodyPost_ret (v := .tuple #[.slice ea en ec, .bool b, .int .i64 0]) (by simp [results, Tryz.results21, go_sem]) rfl ⟨HBF.out, .inr ⟨HAL.out, .inl ⟨_, es, b, rfl, by rw [← HTA.out]; exact HR.out, own_mono HE.out HBW.out.size, by rw [← HM.out]; exact HEL.out⟩⟩⟩
end Go.Proofs.YtigbgajelkknbaaGreatDoor
