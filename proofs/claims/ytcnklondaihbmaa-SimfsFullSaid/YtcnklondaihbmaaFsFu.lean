/- Package simfs: a directory that is filled, name by name; how many bytes it has. Plain; nothing is walked. -/
import Derived.Test.YtcnklondaihbmaaFsSw
namespace Go.Proofs.Ytcnklondaihbmaa
open Go.RowKit Go.Maps Go.WideMaps

/-- The i-th name. -/
def nmB (i : Nat) : ByteArray := ⟨#[102, UInt8.ofNat (97 + i % 10), UInt8.ofNat (97 + i / 10)]⟩
theorem nmB_name : ∀ i, i < 70 → nameB (nmB i) = true := by decide +kernel
theorem nmB_size (i : Nat) : (nmB i).size = 3 := rfl
theorem nmB_ne {i t : Nat} (hi : i < 70) (ht : t < 70) (h : i ≠ t) : nmB i ≠ nmB t := by
  intro e
  apply h
  have h1 : UInt8.ofNat (97 + i % 10) = UInt8.ofNat (97 + t % 10) ∧ UInt8.ofNat (97 + i / 10) = UInt8.ofNat (97 + t / 10) := by
    unfold nmB at e
    injection e with e
    injection e with e
    injection e with _ e
    injection e with e1 e
    injection e with e2 _
    exact ⟨e1, e2⟩
  have a := congrArg UInt8.toNat h1.1
  have b := congrArg UInt8.toNat h1.2
  simp only [UInt8.toNat_ofNat'] at a b
  omega
theorem dget_of_has {D : DataW Unit} {s : ByteArray} (h : Maps.has D (keyL s) = false) : dget D s = none := by
  unfold dget; rw [atKey_of_not_has h]
theorem tot_perm {fl : Nat → Option Fil} {es es' : List (Lit × DataW Unit)} (h : es.Perm es') : tot fl es (fun _ => true) = tot fl es' (fun _ => true) := by
  unfold tot
  exact ((h.filter _).map _).sum_nat
theorem tot_cons (fl : Nat → Option Fil) (x : Lit × DataW Unit) (es : List (Lit × DataW Unit)) : tot fl (x :: es) (fun _ => true) = wt fl x.2 + tot fl es (fun _ => true) := by
  unfold tot; simp
theorem used_put {fl : Nat → Option Fil} {D : DataW Unit} {s : ByteArray} {b : Nat} (hm : Maps.IsMap D) (h : Maps.has D (keyL s) = false) :
    usedD fl (D.put (keyL s) (.lit (.int .i64 (b : Nat)))) = wt fl (.lit (.int .i64 (b : Nat))) + usedD fl D := by
  obtain ⟨es, rfl⟩ := hm
  have hf : (es.filter fun p => !p.1.sameKey (keyL s)) = es := by
    rw [List.filter_eq_self]
    intro p hp
    rw [has_eq, List.any_eq_false] at h
    simpa using h p hp
  show tot fl (DataW.insert (keyL s, .lit (.int .i64 (b : Nat))) (es.filter fun p => !p.1.sameKey (keyL s))) (fun _ => true) = _
  rw [hf, tot_perm (Go.WideShapes.insert_perm _ es), tot_cons]; rfl
theorem used_other {fl fl' : Nat → Option Fil} {D : DataW Unit} {b : Nat} (hO : OkD fl D) (hb : fl b = none) (h : ∀ k, k ≠ b → fl' k = fl k) : usedD fl' D = usedD fl D := by
  obtain ⟨es, rfl, hp⟩ := hO
  show tot fl' es (fun _ => true) = tot fl es (fun _ => true)
  unfold tot
  congr 1
  apply List.map_congr_left
  intro p hpm
  obtain ⟨s, x, f, h1, h2, h3, h4⟩ := hp p (List.mem_filter.1 hpm).1
  rw [h3]
  have hx : x ≠ b := fun e => by rw [e, hb] at h4; cases h4
  unfold wt
  simp only [Int.toNat_natCast]
  rw [h x hx]
structure FullI (A : FsA) (i used : Nat) (room : Int) (n : Nat) : Prop where
  inv : Inv A n
  n4 : n ≤ 4 * i
  calm : Calm A
  roomE : A.room = room
  size : Maps.size A.now = min i 64
  usedE : usedA A = used
  le : (used : Int) ≤ room
  absent : ∀ t, i ≤ t → t < 70 → Maps.has A.now (keyL (nmB t)) = false
theorem FullI.new (room : Int) (h1 : 1 ≤ room) (h2 : room ≤ 1048576) : FullI (newA room) 0 0 room 0 :=
  ⟨Inv.new room h1 h2, Nat.le_refl _, ⟨rfl, rfl⟩, rfl, rfl, rfl, by omega, fun _ _ _ => rfl⟩
section
variable {A : FsA} {i used n b : Nat} {room : Int}
/-- What is behind the i-th Create. -/
def filledA (A : FsA) (i b : Nat) : FsA := { changeA (setF { A with count := A.count + 1 } b ⟨A.created, [], 0⟩) (.create (nmB i) b) with created := A.created + 1 }
theorem FullI.create (h : FullI A i used room n) (hi : i < 64) (hb : A.file b = none) : createA A (nmB i) b = (filledA A i b, 0) ∧ FullI (filledA A i b) (i + 1) used room (n + 3) ∧ dget (filledA A i b).now (nmB i) = some b ∧ (filledA A i b).file b = some ⟨A.created, [], 0⟩ ∧
    ∀ p : List Int, usedA (setF (filledA A i b) b ⟨A.created, [] ++ p, 0⟩) = used + p.length := by
  have hab := h.absent i (Nat.le_refl _) (by omega)
  have hd := dget_of_has hab
  have hT := h.inv.tidyNow
  have hO := h.inv.okNow
  have hnow : (filledA A i b).now = A.now.put (keyL (nmB i)) (.lit (.int .i64 (b : Nat))) := rfl
  have hw : ∀ (q : Fil), usedD (fun k => if k = b then some q else A.file k) (A.now.put (keyL (nmB i)) (.lit (.int .i64 (b : Nat)))) = q.data.length + used := fun q => by
    rw [used_put hT.isMap hab, used_other (b := b) hO hb (fun k hk => if_neg hk)]
    have e1 : wt (fun k => if k = b then some q else A.file k) (.lit (.int .i64 (b : Nat))) = q.data.length := by unfold wt; simp
    rw [e1]
    have := h.usedE
    unfold usedA at this
    rw [this]
  refine ⟨create_calm h.calm (nmB_name i (by omega)) hd (by rw [h.size]; omega) b, ⟨h.inv.createCalm (by rw [nmB_size]; omega) b, by have := h.n4; omega, ⟨h.calm.a, h.calm.p⟩, h.roomE, ?_, ?_, h.le, fun t h1 h2 => ?_⟩, ?_, ?_, fun p => ?_⟩
  · rw [hnow, size_put hT, if_neg (by rw [hab]; simp), h.size]; omega
  · have := hw ⟨A.created, [], 0⟩
    show usedD (fun k => if k = b then _ else A.file k) _ = _
    rw [hnow, this]; simp
  · rw [hnow, has_put_other (fun e => nmB_ne (by omega) h2 (by omega : i ≠ t) (keyL_inj e).symm)]
    exact h.absent t (by omega) h2
  · rw [hnow]; exact dget_put_same hT.isMap _ _
  · show (if b = b then _ else _) = _
    rw [if_pos rfl]
  · have hfe : (setF (filledA A i b) b ⟨A.created, [] ++ p, 0⟩).file = fun k => if k = b then some ⟨A.created, [] ++ p, 0⟩ else A.file k := by
      funext k
      show (if k = b then _ else if k = b then _ else A.file k) = _
      by_cases e : k = b
      · rw [if_pos e, if_pos e]
      · rw [if_neg e, if_neg e, if_neg e]
    unfold usedA
    rw [hfe]
    show usedD _ (filledA A i b).now = _
    rw [hnow, hw]
    simp; omega
theorem FullI.full (h : FullI A i used room n) (hi : ¬ i < 64) (h70 : i < 70) : createA A (nmB i) b = (A, 8) ∧ FullI A (i + 1) used room n := by
  have hab := h.absent i (Nat.le_refl _) h70
  have hd := dget_of_has hab
  constructor
  · unfold createA
    rw [if_pos (nmB_name i h70), hd, if_neg (by simp), if_pos (by rw [h.size]; omega)]
  · exact ⟨h.inv, by have := h.n4; omega, h.calm, h.roomE, by rw [h.size]; omega, h.usedE, h.le, fun t h1 h2 => h.absent t (by omega) h2⟩
theorem FullI.append (h : FullI A i used room n) (hi : i < 64) (hb : A.file b = none) {p : List Int} (hp : p.length ≤ 200) (hr : (used : Int) + p.length ≤ room) :
    ∃ A', appendA (filledA A i b) (nmB i) p = (A', 0) ∧ FullI A' (i + 1) (used + p.length) room (n + 4) := by
  obtain ⟨_, h1, hd, hf, hu⟩ := h.create hi hb
  have hca := append_calm (p := p) h1.calm (nmB_name i (by omega)) hd hf (by simp; omega) (by rw [h1.usedE, h1.roomE]; exact hr)
  refine ⟨_, hca, ⟨(h1.inv.count.setF (b := b) (f := ⟨A.created, [] ++ p, 0⟩) (by simp; omega) (Nat.zero_le _) ⟨h.inv.cr.1, by have := h.inv.cr.2; show A.created ≤ ((n + 3 + 1 : Nat) : Int); omega⟩), by have := h.n4; omega, ⟨h1.calm.a, h1.calm.p⟩, h1.roomE, h1.size, ?_, by omega, h1.absent⟩⟩
  exact hu p
theorem FullI.append_no (h : FullI A i used room n) (hi : i < 64) (hb : A.file b = none) {p : List Int} (hp : p.length ≤ 200) (hr : room < (used : Int) + p.length) :
    ∃ A', appendA (filledA A i b) (nmB i) p = (A', 21) ∧ FullI A' (i + 1) used room (n + 4) := by
  obtain ⟨_, h1, hd, hf, hu⟩ := h.create hi hb
  refine ⟨{ filledA A i b with count := (filledA A i b).count + 1 }, ?_, ⟨h1.inv.count, by have := h.n4; omega, ⟨h1.calm.a, h1.calm.p⟩, h1.roomE, h1.size, h1.usedE, h1.le, h1.absent⟩⟩
  unfold appendA
  rw [findA_some (nmB_name i (by omega)) hd]
  simp only [hf]
  unfold putA
  rw [if_neg (by simp; omega), stepA_calm h1.calm, if_pos rfl, if_pos (by rw [h1.usedE, h1.roomE]; omega)]
end
end Go.Proofs.Ytcnklondaihbmaa
