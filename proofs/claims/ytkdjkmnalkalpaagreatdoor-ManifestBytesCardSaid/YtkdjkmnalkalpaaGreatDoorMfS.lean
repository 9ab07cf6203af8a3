/- Package manifest: Save. -/
import Derived.Test.YtkdjkmnalkalpaaGreatDoorMfE
import Derived.Test.YtkdjkmnalkalpaaGreatDoorMfI
import Derived.Test.YtkdjkmnalkalpaaGreatDoorFsSd
import Derived.Test.YtkdjkmnalkalpaaGreatDoorMfV
namespace Go.Proofs.YtkdjkmnalkalpaaGreatDoor
open Go.RowKit Go.Maps Go.WideMaps
set_option maxRecDepth 100000

def SaveR (n : Int) (ns : List Int) (A A' : FsA) (c : Int) : Prop := (GoodM n ns ∧ Runs (manB n ns) 0 A A' c) ∨ (¬ GoodM n ns ∧ A' = A ∧ c = 1)
theorem inv_rm {A : FsA} {n : Nat} (h : Inv A n) (s : ByteArray) : Inv (rmA A s).1 (n + 3) := by
  unfold rmA
  split
  · exact inv_remove h s
  · exact inv_remove h s
theorem inv_step {B : List Int} {i n : Nat} {A A' : FsA} {c : Int} (h : Inv A n) (hs : SaveStep B i A A' c) : Inv A' (n + 3) := by
  match i, hs with
  | 0, hs => rw [show A' = (rmA A nTmp).1 from congrArg Prod.fst hs]; exact inv_rm h _
  | 1, ⟨b, _, hs⟩ => rw [show A' = _ from congrArg Prod.fst hs]; exact inv_create h _ _
  | 2, hs => rw [show A' = _ from congrArg Prod.fst hs]; exact inv_append h _ _
  | 3, hs => rw [show A' = _ from congrArg Prod.fst hs]; exact inv_sync h _
  | 4, hs => rw [show A' = _ from congrArg Prod.fst hs]; exact inv_rename h _ _
  | 5, hs => rw [show A' = _ from congrArg Prod.fst hs]; exact inv_dir h
section
variable {w0 w : World} {g n : Nat} {S : Nat → Prop} {A : FsA}
set_option maxHeartbeats 1000000 in
theorem rm_pf (s : ByteArray) (h : PF w0 w g S A) (hI : Inv A n) (hn : n < 90000) (hs : s.size ≤ 9223372036854775807) :
    Calls Tryz.prog 77 #[.pointer (some ⟨g, 0, none⟩), .string s] w fun e w' => Done w0 w g S (rmA A s).1 (.int .i64 (rmA A s).2) e w' := by
  have HR := Lib.hid (remove_pf s h hI hn hs)
  have HM : Hid (rmA A s = if (removeA A s).2 = 3 then ((removeA A s).1, 0) else removeA A s) := rfl
  clear h hI hn hs
  generalize rmA A s = Z at *
  generalize removeA A s = Y at *
  obtain ⟨Y1, c⟩ := Y
  go_enter Tryz.func77, Tryz.ntmps77
  go_wp2_with fail
  refine HR.out.mono ?_; rintro e w1 ⟨S1, rfl, hp, ha⟩
  have HP := Lib.hid hp
  have HA := Lib.hid ha
  clear hp ha HR
  by_cases hc : c = 3
  · subst hc
    have e := HM.out
    rw [if_pos rfl] at e
    subst e
    go_wp2_with fail
    go_ret
    exact ⟨S1, rfl, HP.out, HA.out⟩
  · have e := HM.out
    rw [if_neg hc] at e
    subst e
    go_wp2_with fail
    go_ret
    exact ⟨S1, rfl, HP.out, HA.out⟩
variable {Bf Bb : Nat}
set_option maxHeartbeats 1000000 in
theorem save1_pf (h : PF w0 w g S A) (hI : Inv A n) (hn : n < 90000) (hf : w.cell? ⟨Bf, 0, none⟩ = some (.pointer (some ⟨g, 0, none⟩))) :
    Calls Tryz.prog 76 #[.pointer (some ⟨Bf, 0, none⟩)] w fun e w' => Done w0 w g S (rmA A nTmp).1 (.int .i64 (rmA A nTmp).2) e w' := by
  have HR := Lib.hid (rm_pf nTmp h hI hn (by decide))
  clear h hI hn
  generalize rmA A nTmp = Z at *
  unfold nTmp at HR
  go_enter Tryz.func76, Tryz.ntmps76
  go_wp2_with fail
  refine HR.out.mono ?_; rintro e w1 ⟨S1, rfl, hp, ha⟩
  have HP := Lib.hid hp
  have HA := Lib.hid ha
  clear hp ha HR
  go_wp2_with fail
  go_ret
  exact ⟨S1, rfl, HP.out, HA.out⟩
set_option maxHeartbeats 1000000 in
theorem save2_pf (h : PF w0 w g S A) (hI : Inv A n) (hn : n < 90000) (hf : w.cell? ⟨Bf, 0, none⟩ = some (.pointer (some ⟨g, 0, none⟩))) :
    Calls Tryz.prog 78 #[.pointer (some ⟨Bf, 0, none⟩)] w fun e w' => ∃ b, A.file b = none ∧ Done w0 w g S (createA A nTmp b).1 (.int .i64 (createA A nTmp b).2) e w' := by
  have HR := Lib.hid (create_pf nTmp h hI hn (by decide))
  clear h hI hn
  generalize createA A nTmp = Z at *
  unfold nTmp at HR
  go_enter Tryz.func78, Tryz.ntmps78
  go_wp2_with fail
  refine HR.out.mono ?_; rintro e w1 ⟨b, hb, S1, rfl, hp, ha⟩
  have HP := Lib.hid hp
  have HA := Lib.hid ha
  have HBB := Lib.hid hb
  clear hp ha HR hb
  go_wp2_with fail
  go_ret
  exact ⟨b, HBB.out, S1, rfl, HP.out, HA.out⟩
set_option maxHeartbeats 1000000 in
theorem save3_pf (v : Value) (p : List Int) (h : PF w0 w g S A) (hI : Inv A n) (hn : n < 90000) (hf : w.cell? ⟨Bf, 0, none⟩ = some (.pointer (some ⟨g, 0, none⟩))) (hb : w.cell? ⟨Bb, 0, none⟩ = some v) (hp : Bytes w v p) (hpl : p.length ≤ 500000) (hv : ∀ x, Live v x → ¬ S x) :
    Calls Tryz.prog 79 #[.pointer (some ⟨Bf, 0, none⟩), .pointer (some ⟨Bb, 0, none⟩)] w fun e w' => Done w0 w g S (appendA A nTmp p).1 (.int .i64 (appendA A nTmp p).2) e w' := by
  have HR := Lib.hid (append_pf nTmp v p h hI hn (by decide) hp hpl hv)
  obtain ⟨va, vc, rfl⟩ := hp.slice
  clear h hI hn hp hpl hv
  generalize appendA A nTmp p = Z at *
  unfold nTmp at HR
  go_enter Tryz.func79, Tryz.ntmps79
  go_wp2_with fail
  refine HR.out.mono ?_; rintro e w1 ⟨S1, rfl, hp, ha⟩
  have HP := Lib.hid hp
  have HA := Lib.hid ha
  clear hp ha HR
  go_wp2_with fail
  go_ret
  exact ⟨S1, rfl, HP.out, HA.out⟩
set_option maxHeartbeats 1000000 in
theorem save4_pf (h : PF w0 w g S A) (hI : Inv A n) (hn : n < 90000) (hf : w.cell? ⟨Bf, 0, none⟩ = some (.pointer (some ⟨g, 0, none⟩))) :
    Calls Tryz.prog 80 #[.pointer (some ⟨Bf, 0, none⟩)] w fun e w' => Done w0 w g S (syncA A nTmp).1 (.int .i64 (syncA A nTmp).2) e w' := by
  have HR := Lib.hid (sync_pf nTmp h hI hn (by decide))
  clear h hI hn
  generalize syncA A nTmp = Z at *
  unfold nTmp at HR
  go_enter Tryz.func80, Tryz.ntmps80
  go_wp2_with fail
  refine HR.out.mono ?_; rintro e w1 ⟨S1, rfl, hp, ha⟩
  have HP := Lib.hid hp
  have HA := Lib.hid ha
  clear hp ha HR
  go_wp2_with fail
  go_ret
  exact ⟨S1, rfl, HP.out, HA.out⟩
set_option maxHeartbeats 1000000 in
theorem save5_pf (h : PF w0 w g S A) (hI : Inv A n) (hn : n < 90000) (hf : w.cell? ⟨Bf, 0, none⟩ = some (.pointer (some ⟨g, 0, none⟩))) :
    Calls Tryz.prog 81 #[.pointer (some ⟨Bf, 0, none⟩)] w fun e w' => Done w0 w g S (renameA A nTmp nMan).1 (.int .i64 (renameA A nTmp nMan).2) e w' := by
  have HR := Lib.hid (rename_pf nTmp nMan h hI hn (by decide) (by decide))
  clear h hI hn
  generalize renameA A nTmp nMan = Z at *
  unfold nTmp nMan at HR
  go_enter Tryz.func81, Tryz.ntmps81
  go_wp2_with fail
  refine HR.out.mono ?_; rintro e w1 ⟨S1, rfl, hp, ha⟩
  have HP := Lib.hid hp
  have HA := Lib.hid ha
  clear hp ha HR
  go_wp2_with fail
  go_ret
  exact ⟨S1, rfl, HP.out, HA.out⟩
end
end Go.Proofs.YtkdjkmnalkalpaaGreatDoor
