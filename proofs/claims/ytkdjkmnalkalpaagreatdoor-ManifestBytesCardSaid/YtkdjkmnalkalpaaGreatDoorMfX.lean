/- Package manifest: Load and Save beside a world. -/
import Derived.Test.YtkdjkmnalkalpaaGreatDoorMfF
import Derived.Test.YtkdjkmnalkalpaaGreatDoorMfS
namespace Go.Proofs.YtkdjkmnalkalpaaGreatDoor
open Go.RowKit Go.Maps Go.WideMaps
set_option maxRecDepth 100000

def LoadQ (w : World) (r : List Int × Int) (e : Ending) (w' : World) : Prop :=
  Below w.heap.size w w' ∧ ((r.2 ≠ 0 ∧ e = .returned (.tuple #[.agg #[.int .i64 0, .slice none 0 0], .int .i64 r.2])) ∨
    (r.2 = 0 ∧ ((∃ n ns u, decM r.1 = some (n, ns) ∧ e = .returned (.tuple #[.agg #[.int .i64 n, u], .int .i64 0]) ∧ IntsAt w' w.heap.size u ns) ∨ (decM r.1 = none ∧ e = .returned (.tuple #[.agg #[.int .i64 0, .slice none 0 0], .int .i64 2])))))
theorem IntsAt.ge {w : World} {B : Nat} {u : Value} {ns : List Int} (h : IntsAt w B u ns) : ∃ a c, u = .slice a ns.length c := by
  obtain ⟨b, o, cap, h1, _⟩ := h
  exact ⟨_, _, h1⟩
theorem read_short {A : FsA} {s : ByteArray} (h : Short A) : (readA A s).1.length ≤ 65536 := by
  unfold readA
  split
  · cases hfi : (findA A s).1 with
    | none => simp
    | some b =>
      cases hf : A.file b with
      | none => simp [hf]
      | some f => simpa [hf] using (h b f hf).1
  · simp
section
variable {w0 w : World} {g n : Nat} {S : Nat → Prop} {A : FsA}
set_option maxHeartbeats 2000000 in
theorem load_pf (h : PF w0 w g S A) (hI : Inv A n) (hn : NumL w0) (hb : Fr.Byt (readA A nMan).1) :
    Calls Tryz.prog 23 #[.pointer (some ⟨g, 0, none⟩)] w (LoadQ w (readA A nMan)) := by
  obtain ⟨wx, hwx⟩ : ∃ wx, wx = w.alloc (.cells #[.int .i64 0, .slice none 0 0] 37) := ⟨_, rfl⟩
  have hbx : Below w.heap.size w wx := by rw [hwx]; exact (Below.refl _ _).alloc (Nat.le_refl _) _
  have hkx : Blk wx w.heap.size 37 [.int .i64 0, .slice none 0 0] := by rw [hwx]; exact Blk.new w _ _
  have hzx : wx.heap.size = w.heap.size + 1 := by rw [hwx]; simp
  have HR := Lib.hid (read_any g S A nMan wx (h.below hbx).fs hI.named hI.short (by decide))
  have HL := Lib.hid (read_short (s := nMan) hI.short)
  have HB := Lib.hid hb
  have HN := Lib.hid (hn.below h.base)
  have HBX := Lib.hid hbx
  have HKX := Lib.hid hkx
  have HZX := Lib.hid hzx
  clear h hI hn hb hbx hkx hzx
  generalize readA A nMan = R at *
  obtain ⟨d, c⟩ := R
  unfold nMan at HR
  simp only at HR HL HB
  go_enter Tryz.func23, Tryz.ntmps23
  go_upto_region 1 with fail
  rw [← hwx]
  clear hwx
  go_wp2_with fail
  refine HR.out.mono ?_; rintro e w1 ⟨v, rfl, ho, hb1⟩
  have hby : Fr.Bytes w1 v d := Fr.OwnB.bytes ho
  obtain ⟨va, vc, rfl⟩ := hby.slice'
  have HBY := Lib.hid hby
  have HB1 := Lib.hid (HBX.out.trans (hb1.mono HBX.out.size))
  have HZ1 := Lib.hid (show w.heap.size + 1 ≤ w1.heap.size by have := hb1.size; have := HZX.out; omega)
  have HK1 := Lib.hid (blk_stay hb1 HKX.out)
  clear ho hby hb1 HR
  by_cases hc : c = 0
  · subst hc
    have HD := Lib.hid (decM_any (.slice va d.length vc) d w1 (.inl HBY.out) HB.out (by have := HL.out; omega) (HN.out.below HB1.out))
    go_wp2_with fail
    refine HD.out.mono ?_; rintro e w2 ⟨hb2, hq⟩
    have HB2 := Lib.hid (HB1.out.trans (hb2.mono HB1.out.size))
    have HK2 := Lib.hid (blk_stay hb2 HK1.out)
    clear hb2 HD
    have x0 := HK2.out.cell (i := 0) rfl
    have x1 := HK2.out.cell (i := 1) rfl
    have g0 := HK2.out.frozen 0
    have g1 := HK2.out.frozen 1
    rcases hq with ⟨n, ns, u, hdm, rfl, hu⟩ | ⟨hdm, rfl⟩
    · obtain ⟨ua, uc, rfl⟩ := hu.ge
      have HU := Lib.hid (hu.low HZ1.out)
      have HDM := Lib.hid hdm
      clear hu hdm
      go_wp2_with fail
      refine bodyPost_ret (v := .tuple #[.agg #[.int .i64 n, .slice ua ns.length uc], .int .i64 0]) (by simp [results, Tryz.results23, go_sem, x0, x1]) rfl ?_
      exact ⟨(HB2.out.setCell (p := ⟨w.heap.size, 0, none⟩) (Nat.le_refl _) _).setCell (p := ⟨w.heap.size, 1, none⟩) (Nat.le_refl _) _, .inr ⟨rfl, .inl ⟨n, ns, _, HDM.out, rfl, (HU.out.set.set).low (Nat.le_succ _)⟩⟩⟩
    · have HDM := Lib.hid hdm
      clear hdm
      go_wp2_with fail
      refine bodyPost_ret (v := .tuple #[.agg #[.int .i64 0, .slice none 0 0], .int .i64 2]) (by simp [results, Tryz.results23, go_sem, x0, x1]) rfl ?_
      exact ⟨(HB2.out.setCell (p := ⟨w.heap.size, 0, none⟩) (Nat.le_refl _) _).setCell (p := ⟨w.heap.size, 1, none⟩) (Nat.le_refl _) _, .inr ⟨rfl, .inr ⟨HDM.out, rfl⟩⟩⟩
  · have x0 := HK1.out.cell (i := 0) rfl
    have x1 := HK1.out.cell (i := 1) rfl
    have g0 := HK1.out.frozen 0
    have g1 := HK1.out.frozen 1
    go_wp2_with fail
    refine bodyPost_ret (v := .tuple #[.agg #[.int .i64 0, .slice none 0 0], .int .i64 c]) (by simp [results, Tryz.results23, go_sem, x0, x1]) rfl ?_
    exact ⟨(HB1.out.setCell (p := ⟨w.heap.size, 0, none⟩) (Nat.le_refl _) _).setCell (p := ⟨w.heap.size, 1, none⟩) (Nat.le_refl _) _, .inl ⟨hc, rfl⟩⟩
theorem save_turn {wI : World} {R Bf Bb : Nat} {v : Value} {B : List Int} {t1 t2 t3 : TypeId} (h : PF w0 wI g S A) (hI : Inv A n) (hn : n < 80000)
    (hr : Blk wI R t1 [.func (.func 76) #[] #[.pointer (some ⟨Bf, 0, none⟩)], .func (.func 78) #[] #[.pointer (some ⟨Bf, 0, none⟩)], .func (.func 79) #[] #[.pointer (some ⟨Bf, 0, none⟩), .pointer (some ⟨Bb, 0, none⟩)],
      .func (.func 80) #[] #[.pointer (some ⟨Bf, 0, none⟩)], .func (.func 81) #[] #[.pointer (some ⟨Bf, 0, none⟩)], .func (.func 69) #[.pointer (some ⟨g, 0, none⟩)] #[]])
    (hf : Blk wI Bf t2 [.pointer (some ⟨g, 0, none⟩)]) (hb : Blk wI Bb t3 [v]) (hR : ¬ S R) (hF : ¬ S Bf) (hB : ¬ S Bb) (hp : Bytes wI v B) (hpl : B.length ≤ 500000) (hv : ∀ x, Live v x → x < wI.heap.size ∧ ¬ S x) :
    Calls Tryz.prog 75 #[.slice (some ⟨R, 0, none⟩) 6 6] wI fun e w' => ∃ A' c, Runs B 0 A A' c ∧ Inv A' (n + 18) ∧ Done w0 wI g S A' (.int .i64 c) e w' := by
  refine (inTurn_any R 0 6 6 wI (by omega)
    (fun i W => ∃ S' A', (∀ A'' c, Runs B i A' A'' c → Runs B 0 A A'' c) ∧ PF w0 W g S' A' ∧ Inv A' (n + 3 * i) ∧ Adv S S' wI W)
    (fun c W => ∃ S' A', Runs B 0 A A' c ∧ PF w0 W g S' A' ∧ Inv A' (n + 18) ∧ Adv S S' wI W)
    ⟨S, A, fun _ _ h => h, h, hI, Adv.refl _ _⟩ ?_).mono ?_
  · rintro i W hi ⟨S', A', hrun, hpf, hinv, hadv⟩
    have hrW := (hadv.blk hr hR).1
    have cf := (hadv.blk hf hF).1.cell (i := 0) rfl
    have cb := (hadv.blk hb hB).1.cell (i := 0) rfl
    have hpW : Bytes W v B := hp.same (fun k hk hl => (hadv.block hk (hv k hl).2).1) hadv.keep.size
    have hvW : ∀ x, Live v x → ¬ S' x := fun x hx => (hadv.block (hv x hx).1 (hv x hx).2).2
    have fin : ∀ (A1 : FsA) (c : Int) (e : Ending) (w' : World), SaveStep B i A' A1 c → Done w0 W g S' A1 (.int .i64 c) e w' → ∃ c : Int, e = .returned (.int .i64 c) ∧
        (c = 0 → ∃ S'' A'', (∀ A3 c, Runs B (i + 1) A'' A3 c → Runs B 0 A A3 c) ∧ PF w0 w' g S'' A'' ∧ Inv A'' (n + 3 * (i + 1)) ∧ Adv S S'' wI w') ∧
        (c ≠ 0 → ∃ S'' A'', Runs B 0 A A'' c ∧ PF w0 w' g S'' A'' ∧ Inv A'' (n + 18) ∧ Adv S S'' wI w') := by
      rintro A1 c e w' hs ⟨S1, rfl, hp1, ha1⟩
      refine ⟨c, rfl, fun h0 => ?_, fun h0 => ?_⟩
      · subst h0
        exact ⟨S1, A1, fun A3 c3 h3 => hrun _ _ (.next hs h3), hp1, (inv_step hinv hs).mono (by omega), hadv.trans ha1⟩
      · exact ⟨S1, A1, hrun _ _ (.fail hs h0), hp1, (inv_step hinv hs).mono (by omega), hadv.trans ha1⟩
    have hn' : n + 3 * i < 90000 := by omega
    match i, hi with
    | 0, _ => exact ⟨_, hrW.cell (i := 0) rfl, _, _, _, rfl, enters_of Tryz.func76 (by kernel_rfl) rfl, (save1_pf hpf hinv hn' cf).mono fun e w' hd => fin _ _ e w' rfl hd⟩
    | 1, _ => exact ⟨_, hrW.cell (i := 1) rfl, _, _, _, rfl, enters_of Tryz.func78 (by kernel_rfl) rfl, (save2_pf hpf hinv hn' cf).mono fun e w' ⟨b, hb, hd⟩ => fin _ _ e w' ⟨b, hb, rfl⟩ hd⟩
    | 2, _ => exact ⟨_, hrW.cell (i := 2) rfl, _, _, _, rfl, enters_of Tryz.func79 (by kernel_rfl) rfl, (save3_pf v B hpf hinv hn' cf cb hpW hpl hvW).mono fun e w' hd => fin _ _ e w' rfl hd⟩
    | 3, _ => exact ⟨_, hrW.cell (i := 3) rfl, _, _, _, rfl, enters_of Tryz.func80 (by kernel_rfl) rfl, (save4_pf hpf hinv hn' cf).mono fun e w' hd => fin _ _ e w' rfl hd⟩
    | 4, _ => exact ⟨_, hrW.cell (i := 4) rfl, _, _, _, rfl, enters_of Tryz.func81 (by kernel_rfl) rfl, (save5_pf hpf hinv hn' cf).mono fun e w' hd => fin _ _ e w' rfl hd⟩
    | 5, _ => exact ⟨_, hrW.cell (i := 5) rfl, _, _, _, rfl, enters_of Tryz.func69 (by kernel_rfl) rfl, (dir_pf hpf hinv hn').mono fun e w' hd => fin _ _ e w' rfl hd⟩
  · rintro e w' ⟨c, rfl, ⟨rfl, S', A', hrun, hpf, hinv, hadv⟩ | ⟨_, S', A', hrun, hpf, hinv, hadv⟩⟩
    · exact ⟨A', 0, hrun _ _ .done, hinv.mono (by omega), S', rfl, hpf, hadv⟩
    · exact ⟨A', c, hrun, hinv, S', rfl, hpf, hadv⟩
def SaveQ (w0 w : World) (g n : Nat) (S : Nat → Prop) (A : FsA) (v : Int) (ns : List Int) (e : Ending) (w' : World) : Prop :=
  ∃ A' c, SaveR v ns A A' c ∧ Inv A' (n + 18) ∧ Done w0 w g S A' (.int .i64 c) e w'
set_option maxHeartbeats 8000000 in
theorem save_pf (v : Int) (u : Value) (ns : List Int) (h : PF w0 w g S A) (hI : Inv A n) (hn : n < 80000) (ht : Tab w0) (hu : IntsW w u ns) (hl : ns.length < 9223372036854775808) :
    Calls Tryz.prog 18 #[.pointer (some ⟨g, 0, none⟩), .agg #[.int .i64 v, u]] w (SaveQ w0 w g n S A v ns) := by
  obtain ⟨ua, uc, rfl⟩ := hu.slice
  obtain ⟨wx, hwx⟩ : ∃ wx, wx = (w.alloc (.cells #[.pointer (some ⟨g, 0, none⟩)] 24)).alloc (.cells #[.int .i64 v, .slice ua ns.length uc] 37) := ⟨_, rfl⟩
  have hbx : Below w.heap.size w wx := by rw [hwx]; exact ((Below.refl _ _).alloc (Nat.le_refl _) _).alloc (by simp) _
  have hkf : Blk wx w.heap.size 24 [.pointer (some ⟨g, 0, none⟩)] := by rw [hwx]; exact blk_stay ((Below.refl _ _).alloc (Nat.le_refl _) _) (Blk.new w _ _)
  have hkm : Blk wx (w.heap.size + 1) 37 [.int .i64 v, .slice ua ns.length uc] := by
    rw [hwx]
    have := Blk.new (w.alloc (.cells #[.pointer (some ⟨g, 0, none⟩)] 24)) 37 [.int .i64 v, .slice ua ns.length uc]
    rw [World.size_alloc] at this
    exact this
  have HEN := Lib.hid (encM_any v (.slice ua ns.length uc) ns wx (hu.below hbx) hl ((ht.below h.base).below hbx))
  have HH := Lib.hid h
  have HI := Lib.hid hI
  have HBX := Lib.hid hbx
  have HKF := Lib.hid hkf
  have HKM := Lib.hid hkm
  clear h hI ht hu hbx hkf hkm
  go_enter Tryz.func18, Tryz.ntmps18
  go_upto_region 1 with fail
  rw [← hwx]
  clear hwx
  have m0 := HKM.out.cell (i := 0) rfl
  have m1 := HKM.out.cell (i := 1) rfl
  go_wp2_with fail
  refine HEN.out.mono ?_; rintro e w1 ⟨hb1, hq⟩
  clear HEN m0 m1
  have HB1 := Lib.hid (HBX.out.trans (hb1.mono HBX.out.size))
  have HK1 := Lib.hid (blk_stay hb1 HKF.out)
  clear hb1 HKF HKM
  rcases hq with ⟨hg, v1, rfl, ho1⟩ | ⟨hg, rfl⟩
  · obtain ⟨va, vc, rfl⟩ := ho1.slice
    have HG := Lib.hid hg
    have HO1 := Lib.hid ho1
    clear hg ho1
    go_upto_region 2 with fail
    refine Fr.wp_world fun w2 hw2 => ?_
    have hb12 : Below w1.heap.size w1 w2 := by rw [hw2]; exact (Below.refl _ _).alloc (Nat.le_refl _) _
    have hkb : Blk w2 w1.heap.size 38 [.slice va (manB v ns).length vc] := by rw [hw2]; exact Blk.new w1 _ _
    have HB2 := Lib.hid (HB1.out.trans (hb12.mono HB1.out.size))
    have HK2 := Lib.hid (blk_stay hb12 HK1.out)
    have HKB := Lib.hid hkb
    have HO2 := Lib.hid (HO1.out.keep hb12)
    clear hw2 hb12 hkb
    have f0 := HK2.out.cell (i := 0) rfl
    have hbd : Below w2.heap.size w2 w2.drew := ⟨rfl, rfl, rfl, Nat.le_refl _, fun _ _ => rfl⟩
    have HT : Hid (∀ (wI : World), wI = w2.alloc (.cells #[.func (.func 76) #[] #[.pointer (some ⟨w.heap.size, 0, none⟩)], .func (.func 78) #[] #[.pointer (some ⟨w.heap.size, 0, none⟩)], .func (.func 79) #[] #[.pointer (some ⟨w.heap.size, 0, none⟩), .pointer (some ⟨w1.heap.size, 0, none⟩)],
        .func (.func 80) #[] #[.pointer (some ⟨w.heap.size, 0, none⟩)], .func (.func 81) #[] #[.pointer (some ⟨w.heap.size, 0, none⟩)], .func (.func 69) #[.pointer (some ⟨g, 0, none⟩)] #[]] 65) →
        Calls Tryz.prog 75 #[.slice (some ⟨w2.heap.size, 0, none⟩) 6 6] wI fun e w' => ∃ A' c, Runs (manB v ns) 0 A A' c ∧ Inv A' (n + 18) ∧ Done w0 w g S A' (.int .i64 c) e w') := by
      intro wI hwI
      have hbI : Below w2.heap.size w2 wI := by rw [hwI]; exact (Below.refl _ _).alloc (Nat.le_refl _) _
      have hbw : Below w.heap.size w wI := HB2.out.trans (hbI.mono HB2.out.size)
      have hold : ∀ k, w.heap.size ≤ k → ¬ S k := fun k hk hS => by have := (HH.out.lo k hS).2; omega
      have hoI : Fr.OwnB wI wx.heap.size (.slice va (manB v ns).length vc) (manB v ns) := HO2.out.keep hbI
      refine (save_turn (t1 := 65) (t2 := 24) (t3 := 38) (HH.out.below hbw) HI.out hn (by rw [hwI]; exact Blk.new w2 _ _) (blk_stay hbI HK2.out) (blk_stay hbI HKB.out) (hold _ HB2.out.size) (hold _ (Nat.le_refl _)) (hold _ HB1.out.size) (OwnD.bytes hoI) (by
        have := textM_len HG.out
        unfold manB
        rw [Fr.frameI_length]
        omega) (fun x hx => ⟨(World.ownsRow.lt hoI x hx.1).2, hold x (Nat.le_trans HBX.out.size (World.ownsRow.lt hoI x hx.1).1)⟩)).mono ?_
      rintro e w' ⟨A', c, h1, h2, S', h3, h4, h5⟩
      exact ⟨A', c, h1, h2, S', h3, h4, (Adv.of_below hbw).trans h5⟩
    clear hbd
    go_wp2_with fail
    refine (HT.out _ rfl).mono ?_; rintro e w3 ⟨A', c, h1, h2, S', rfl, h4, h5⟩
    have H1 := Lib.hid h1
    have H2 := Lib.hid h2
    have H4 := Lib.hid h4
    have H5 := Lib.hid h5
    clear h1 h2 h4 h5 HT
    go_wp2_with fail
    go_ret
    exact ⟨A', c, .inl ⟨HG.out, H1.out⟩, H2.out, S', rfl, H4.out, H5.out⟩
  · have hb2 : Below w.heap.size w (w1.alloc (.cells #[.slice none 0 0] 38)) := HB1.out.trans (((Below.refl _ _).alloc (Nat.le_refl _) _).mono HB1.out.size)
    have hp1 := HH.out.below hb2
    have HP1 := Lib.hid hp1
    have HA1 := Lib.hid (Adv.of_below (S := S) hb2)
    have HI1 := Lib.hid (HI.out.mono (show n ≤ n + 18 by omega))
    clear hp1 hb2
    go_wp2_with fail
    go_ret
    exact ⟨A, 1, .inr ⟨hg, rfl, rfl⟩, HI1.out, S, rfl, HP1.out, HA1.out⟩
end
end Go.Proofs.YtkdjkmnalkalpaaGreatDoor
