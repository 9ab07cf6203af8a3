/- Package simfs: a file system in memory, and what of it a step turns. -/
import Derived.Test.YtpfbiijcmmkjlaaFsB
namespace Go.Proofs.Ytpfbiijcmmkjlaa
open Go.RowKit Go.Maps Go.WideMaps

structure Fil where
  num : Int
  data : List Int
  sure : Nat
structure FsA where
  count : Int
  armed : Bool
  left : Int
  plan : List Int
  room : Int
  created : Int
  now : DataW Unit
  sure : DataW Unit
  since : List Chg
  file : Nat → Option Fil

/-- Bytes that the file system owns. -/
def OwnD (w : World) (v : Value) (ys : List Int) : Prop := w.ownsRow 0 5 1 v ys.length (ys.map (Value.int .u8))
theorem ownsRow_to {w w' : World} {base : Nat} {e size : Nat} {v : Value} {n : Nat} {xs : List Value} (h : w.ownsRow base e size v n xs)
    (hs : ∀ k cur, w.heap[k]? = some (.cells cur e (0, 0)) → v.ownBlock = some k → w'.heap[k]? = w.heap[k]?) : w'.ownsRow base e size v n xs := by
  refine ⟨h.1, ?_⟩
  rcases h.2 with h | ⟨g, cap, cur, rfl, h1, h2, h3⟩
  · exact .inl h
  · exact .inr ⟨g, cap, cur, rfl, h1, (hs g cur h2 rfl).trans h2, h3⟩
def FileAt (w : World) (b : Nat) (d : Value) (f : Fil) : Prop :=
  Blk w b 84 [.int .i64 f.num, d, .int .i64 f.sure] ∧ OwnD w d f.data

structure FsM (w : World) (g : Nat) (S : Nat → Prop) (A : FsA) (pv : Value) (bn bs : Nat) (sv : Value) (vs : List Value) (dv : Nat → Value) : Prop where
  row : Blk w g 61 (fsRow A.count A.armed A.left pv A.room A.created bn bs sv)
  gS : S g
  plan : PlanAt w pv A.plan
  planS : ∀ k, pv.ownBlock = some k → S k
  now : Dir w bn A.now
  nS : S bn
  sure : Dir w bs A.sure
  sS : S bs
  ne : bn ≠ bs
  since : w.ownsRow 0 80 1 sv vs.length vs
  sinceS : ∀ k, sv.ownBlock = some k → S k
  cloL : vs.length = A.since.length
  clo : ∀ (i : Nat) (c : Chg), A.since[i]? = some c → ∃ v, vs[i]? = some v ∧ Clo w S v c
  file : ∀ b f, A.file b = some f → FileAt w b (dv b) f ∧ S b ∧ ∀ k, (dv b).ownBlock = some k → S k
  apart : ∀ b b', b ≠ b' → (A.file b).isSome = true → (A.file b').isSome = true → ∀ k, (dv b).ownBlock = some k → (dv b').ownBlock ≠ some k
/-- A file system lies at g, in blocks of S. -/
def Fs (w : World) (g : Nat) (S : Nat → Prop) (A : FsA) : Prop := ∃ pv bn bs sv vs dv, FsM w g S A pv bn bs sv vs dv

section
variable {w w' : World} {g : Nat} {S T : Nat → Prop} {A : FsA} {pv : Value} {bn bs : Nat} {sv : Value} {vs : List Value} {dv : Nat → Value}
theorem Blk.of {t : TypeId} {cs : List Value} {k : Nat} (h : w'.heap[k]? = w.heap[k]?) (b : Blk w k t cs) : Blk w' k t cs := h.trans b
theorem Clo.to {v : Value} {c : Chg} (h : Clo w S v c) (hT : ∀ k, S k → T k)
    (hs : ∀ k cs, (Blk w k 9 cs ∨ Blk w k 77 cs) → S k → w'.heap[k]? = w.heap[k]?) : Clo w' T v c := by
  cases c with
  | create n b => obtain ⟨xb, nb, h1, h2, h3, h4, h5, h6⟩ := h; exact ⟨xb, nb, h1, Blk.of (hs _ _ (.inr h2) h4) h2, Blk.of (hs _ _ (.inl h3) h5) h3, hT _ h4, hT _ h5, h6⟩
  | rename a b => obtain ⟨xb, nb, h1, h2, h3, h4, h5, h6, h7⟩ := h; exact ⟨xb, nb, h1, Blk.of (hs _ _ (.inl h2) h4) h2, Blk.of (hs _ _ (.inl h3) h5) h3, hT _ h4, hT _ h5, h6, h7⟩
  | remove a => obtain ⟨xb, h1, h2, h4, h6⟩ := h; exact ⟨xb, h1, Blk.of (hs _ _ (.inl h2) h4) h2, hT _ h4, h6⟩
theorem FileAt.to {b : Nat} {d : Value} {f : Fil} (h : FileAt w b d f) (h1 : w'.heap[b]? = w.heap[b]?)
    (hs : ∀ k cur, w.heap[k]? = some (.cells cur 5 (0, 0)) → d.ownBlock = some k → w'.heap[k]? = w.heap[k]?) : FileAt w' b d f :=
  ⟨Blk.of h1 h.1, ownsRow_to h.2 hs⟩
/-- A file system whose blocks are all as they were. -/
theorem FsM.to (h : FsM w g S A pv bn bs sv vs dv) (hT : ∀ k, S k → T k) (hs : ∀ k, S k → k < w.heap.size → w'.heap[k]? = w.heap[k]?) : FsM w' g T A pv bn bs sv vs dv := by
  have lt : ∀ {k : Nat} {o : Obj}, w.heap[k]? = some o → k < w.heap.size := fun {k o} e => by
    by_cases c : k < w.heap.size
    · exact c
    · rw [Array.getElem?_eq_none (by omega)] at e; cases e
  exact {
    row := Blk.of (hs _ h.gS h.row.lt) h.row
    gS := hT _ h.gS
    plan := h.plan.to fun k cur e o => hs k (h.planS k o) (lt e)
    planS := fun k o => hT _ (h.planS k o)
    now := h.now.to (hs _ h.nS h.now.lt)
    nS := hT _ h.nS
    sure := h.sure.to (hs _ h.sS h.sure.lt)
    sS := hT _ h.sS
    ne := h.ne
    since := ownsRow_to h.since fun k cur e o => hs k (h.sinceS k o) (lt e)
    sinceS := fun k o => hT _ (h.sinceS k o)
    cloL := h.cloL
    clo := fun i c e => by
      obtain ⟨v, h1, h2⟩ := h.clo i c e
      exact ⟨v, h1, h2.to hT fun k cs hk hS => hs k hS (hk.elim Blk.lt Blk.lt)⟩
    file := fun b f e => by
      obtain ⟨h1, h2, h3⟩ := h.file b f e
      exact ⟨h1.to (hs b h2 h1.1.lt) fun k cur e o => hs k (h3 k o) (lt e), hT _ h2, fun k o => hT _ (h3 k o)⟩
    apart := h.apart }
theorem Fs.to (h : Fs w g S A) (hT : ∀ k, S k → T k) (hs : ∀ k, S k → k < w.heap.size → w'.heap[k]? = w.heap[k]?) : Fs w' g T A := by
  obtain ⟨pv, bn, bs, sv, vs, dv, h⟩ := h
  exact ⟨pv, bn, bs, sv, vs, dv, h.to hT hs⟩
theorem kind_ne {k x : Nat} {o o' : Obj} (h : w.heap[k]? = some o) (h' : w.heap[x]? = some o') (hne : o ≠ o') : k ≠ x := by
  rintro rfl; rw [h] at h'; exact hne (Option.some.inj h')
/-- The head's cells alone are turned. -/
theorem FsM.head (h : FsM w g S A pv bn bs sv vs dv) (hb : But w.heap.size g w w') (c : Int) (ar : Bool) (l cr : Int) (p : List Int) (pv' : Value)
    (hr : Blk w' g 61 (fsRow c ar l pv' A.room cr bn bs sv)) (hp : PlanAt w' pv' p) (hpS : ∀ k, pv'.ownBlock = some k → S k) :
    FsM w' g S { A with count := c, armed := ar, left := l, plan := p, created := cr } pv' bn bs sv vs dv := by
  have hs : ∀ {k : Nat} {o : Obj}, w.heap[k]? = some o → k ≠ g → w'.heap[k]? = w.heap[k]? := fun {k o} e hne =>
    hb.block k (by
      by_cases c : k < w.heap.size
      · exact c
      · rw [Array.getElem?_eq_none (by omega)] at e; cases e) hne
  have hrow := h.row
  have hn := h.now
  have hsu := h.sure
  refine { row := hr, gS := h.gS, plan := hp, planS := hpS, now := h.now.to ?_, nS := h.nS, sure := h.sure.to ?_, sS := h.sS, ne := h.ne, since := ownsRow_to h.since ?_, sinceS := h.sinceS, cloL := h.cloL, clo := ?_, file := ?_, apart := h.apart }
  · obtain ⟨es, cl, e, _⟩ := hn
    exact hs e (kind_ne e hrow (by intro e; cases e))
  · obtain ⟨es, cl, e, _⟩ := hsu
    exact hs e (kind_ne e hrow (by intro e; cases e))
  · exact fun k cur e _ => hs e (kind_ne e hrow (by intro e; cases e))
  · intro i c e
    obtain ⟨v, h1, h2⟩ := h.clo i c e
    refine ⟨v, h1, h2.to (fun _ k => k) fun k cs hk _ => ?_⟩
    rcases hk with hk | hk
    · exact hs hk (kind_ne hk hrow (by intro e; cases e))
    · exact hs hk (kind_ne hk hrow (by intro e; cases e))
  · intro b f e
    obtain ⟨h1, h2, h3⟩ := h.file b f e
    exact ⟨h1.to (hs h1.1 (kind_ne h1.1 hrow (fun e => by injection e with _ e2 _; exact absurd e2 (by decide)))) fun k cur e _ => hs e (kind_ne e hrow (by intro e; cases e)), h2, h3⟩
end

/-- What a step makes of a file system; what is planned for it; the error. -/
def stepA (A : FsA) : FsA × Int × Int :=
  if deadB A.armed A.left = true then (A, 0, 22)
  else ({ A with count := A.count + 1, left := if A.armed = true then A.left - 1 else A.left, plan := A.plan.tail }, howOf A.plan, faultOf (howOf A.plan))
/-- Numbers that fit. -/
structure Num (A : FsA) : Prop where
  c : 0 ≤ A.count ∧ A.count < 4611686018427387904
  l : 0 ≤ A.left ∧ A.left ≤ 9223372036854775807
  p : A.plan.length < 9223372036854775807

set_option maxHeartbeats 2000000 in
theorem step_any (g : Nat) (S : Nat → Prop) (A : FsA) (w : World) (h : Fs w g S A) (hn : Num A) :
    Calls Try.prog 42 #[.pointer (some ⟨g, 0, none⟩)] w fun e w' => e = .returned (.tuple #[.int .i64 (stepA A).2.1, .int .i64 (stepA A).2.2]) ∧ Fs w' g S (stepA A).1 ∧ But w.heap.size g w w' := by
  obtain ⟨pv, bn, bs, sv, vs, dv, h⟩ := h
  have hbg := begin_any g A.count A.armed A.left [pv, .int .i64 A.room, .int .i64 A.created, .map (some bn), .map (some bs), sv] w h.row hn.c hn.l
  have hplan := h.plan
  have hplanS := h.planS
  have HM := Lib.hid h
  have hpl := hn.p
  clear h
  cases hd : deadB A.armed A.left
  · have HS : Hid (stepA A = ({ A with count := A.count + 1, left := if A.armed = true then A.left - 1 else A.left, plan := A.plan.tail }, howOf A.plan, faultOf (howOf A.plan))) := by
      show _ = _
      unfold stepA; rw [hd]; rfl
    rw [hd] at hbg
    have hff : ¬ (false = true) := by simp
    rw [if_neg hff] at hbg
    clear hd hff
    rw [HS.out]
    have HBG := Lib.hid hbg
    clear hbg
    have hc0 := hn.c
    have hl0 := hn.l
    generalize hcc : A.count + 1 = c1 at *
    generalize hll : (if A.armed = true then A.left - 1 else A.left) = l1 at *
    clear hcc hll
    go_enter Try.func42, Try.ntmps42
    go_wp2_with fail
    refine HBG.out.mono ?_; rintro e w1 ⟨rfl, hb1, hr1⟩
    have hpl1 : PlanAt w1 pv A.plan := hplan.to fun k cur e _ => by
      have hk : k < w.heap.size := by
        by_cases c : k < w.heap.size
        · exact c
        · rw [Array.getElem?_eq_none (by omega)] at e; cases e
      exact hb1.block k hk (kind_ne e HM.out.row (by intro e; cases e))
    have hnx := next_any g (.int .i64 c1) (.bool A.armed) (.int .i64 l1) pv [.int .i64 A.room, .int .i64 A.created, .map (some bn), .map (some bs), sv] A.plan w1 hr1 hpl1 hpl
    have HB1 := Lib.hid hb1
    clear hr1 hpl1 hb1
    go_wp2_with fail
    refine hnx.mono ?_; rintro e w2 ⟨rfl, hb2, pv', hr2, hp2, ho2⟩
    have hB := HB1.out.trans (hb2.mono HB1.out.size)
    have HF := Lib.hid (HM.out.head hB c1 A.armed l1 A.created A.plan.tail pv' hr2 hp2 (fun k hk => hplanS k (by rw [← ho2]; exact hk)))
    have HBB := Lib.hid hB
    clear hnx hr2 hp2 ho2 hb2 hB
    go_wp2_with (go_at_call 64; refine (fault_any _ _).mono ?_; rintro e w' ⟨rfl, rfl⟩)
    go_ret2
    exact ⟨rfl, ⟨_, _, _, _, _, _, HF.out⟩, HBB.out⟩
  · have HS : Hid (stepA A = (A, 0, 22)) := by
      show _ = _
      unfold stepA; rw [if_pos hd]
    rw [hd] at hbg
    rw [if_pos rfl] at hbg
    rw [HS.out]
    have HBG := Lib.hid hbg
    clear hbg hd
    go_enter Try.func42, Try.ntmps42
    go_wp2_with fail
    refine HBG.out.mono ?_; rintro e w1 ⟨rfl, hb1, hr1⟩
    have hpl1 : PlanAt w1 pv A.plan := hplan.to fun k cur e _ => by
      have hk : k < w.heap.size := by
        by_cases c : k < w.heap.size
        · exact c
        · rw [Array.getElem?_eq_none (by omega)] at e; cases e
      exact hb1.block k hk (kind_ne e HM.out.row (by intro e; cases e))
    have HF := Lib.hid (HM.out.head hb1 A.count A.armed A.left A.created A.plan pv hr1 hpl1 hplanS)
    have HB1 := Lib.hid hb1
    clear hr1 hpl1 hb1
    go_wp2_with fail
    go_ret2
    exact ⟨rfl, ⟨_, _, _, _, _, _, HF.out⟩, HB1.out⟩
end Go.Proofs.Ytpfbiijcmmkjlaa
