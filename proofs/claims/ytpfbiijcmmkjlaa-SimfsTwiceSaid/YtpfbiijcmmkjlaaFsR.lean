/- Package simfs: 'Crash', its parts. -/
import Derived.Test.YtpfbiijcmmkjlaaFsQ
import Derived.Deep.RegionHeld3
namespace Go.Proofs.Ytpfbiijcmmkjlaa
open Go.RowKit Go.Maps Go.WideMaps

/-- A kept change, called. -/
theorem clo_call {w : World} {S : Nat → Prop} {v : Value} {c : Chg} {m : Nat} {D : DataW Unit} (hc : Clo w S v c) (hD : Dir w m D) (hz : Maps.size D < 1000000) :
    ∃ fn cap, v = .func (.func fn) #[] cap ∧ (∀ args w, (callFunc fn args).run Try.prog w = .ok (.enter fn args) w) ∧ Calls Try.prog fn (#[.map (some m)] ++ cap) w fun e w' => e = .returned (.tuple #[]) ∧ Dir w' m (c.ap D) ∧ w.grownBy w' (some m) := by
  cases c with
  | create n b => obtain ⟨xb, nb, hv, h2, h3, _, _, h6⟩ := hc; exact ⟨_, _, hv, enters_of Try.func66 (by kernel_rfl) rfl, create1_any xb nb m n b D w h2 h3 h6 hD hz⟩
  | rename a b => obtain ⟨xa, xb, hv, h2, h3, _, _, h6, h7⟩ := hc; exact ⟨_, _, hv, enters_of Try.func67 (by kernel_rfl) rfl, rename1_any xa xb m a b D w h2 h3 h6 h7 hD hz⟩
  | remove a => obtain ⟨xa, hv, h2, _, h6⟩ := hc; exact ⟨_, _, hv, enters_of Try.func68 (by kernel_rfl) rfl, remove1_any xa m a D w h2 h6 hD⟩
theorem size_ap_le {D : DataW Unit} (h : Maps.Tidy D) (c : Chg) : Maps.size (c.ap D) ≤ Maps.size D + 1 := by
  cases c with
  | create n b => show Maps.size (D.put _ _) ≤ _; rw [size_put h]; split <;> omega
  | rename a b =>
    show Maps.size ((D.del _).put _ _) ≤ _
    rw [size_put (h.del _)]
    have := size_del (k := keyL a) h
    split <;> omega
  | remove a => show Maps.size (D.del _) ≤ _; have := size_del (k := keyL a) h; omega

/-- A file system that is being made: its sure directory isn't there yet. -/
structure Mk (w : World) (g : Nat) (S : Nat → Prop) (X : FsA) (bn : Nat) (dv : Nat → Value) : Prop where
  row : Blk w g 61 [.int .i64 0, .bool false, .int .i64 0, .slice none 0 0, .int .i64 X.room, .int .i64 X.created, .map (some bn), .map none, .slice none 0 0]
  gS : S g
  now : Dir w bn X.now
  nS : S bn
  file : ∀ b f, X.file b = some f → FileAt w b (dv b) f ∧ S b ∧ ∀ k, (dv b).ownBlock = some k → S k
  apart : ∀ b b', b ≠ b' → (X.file b).isSome = true → (X.file b').isSome = true → ∀ k, (dv b).ownBlock = some k → (dv b').ownBlock ≠ some k
section
variable {w w' : World} {g : Nat} {S T : Nat → Prop} {X : FsA} {bn : Nat} {dv : Nat → Value}
theorem Mk.to (h : Mk w g S X bn dv) (hT : ∀ k, S k → T k) (hs : ∀ k, k < w.heap.size → w'.heap[k]? = w.heap[k]?) : Mk w' g T X bn dv where
  row := Blk.of (hs _ h.row.lt) h.row
  gS := hT _ h.gS
  now := h.now.to (hs _ h.now.lt)
  nS := hT _ h.nS
  file := fun b f e => by
    obtain ⟨h1, h2, h3⟩ := h.file b f e
    exact ⟨h1.to (hs b h1.1.lt) fun k cur e _ => hs k (heap_lt e), hT _ h2, fun k o => hT _ (h3 k o)⟩
  apart := h.apart
theorem Mk.addFile (h : Mk w g S X bn dv) {nb : Nat} {d' : Value} {f' : Fil} (hB : Below w.heap.size w w') (hf : FileAt w' nb d' f') (hn : w.heap.size ≤ nb) (hd : ∀ k, d'.ownBlock = some k → w.heap.size ≤ k)
    (hT : ∀ k, S k → T k) (hT2 : ∀ k, w.heap.size ≤ k → k < w'.heap.size → T k) :
    Mk w' g T { X with file := fun k => if k = nb then some f' else X.file k } bn (fun k => if k = nb then d' else dv k) := by
  have h1 := h.to hT hB.block
  have hlt : ∀ {x}, d'.ownBlock = some x → x < w'.heap.size := fun {x} hx => by obtain ⟨cur, hcur⟩ := hf.2.blk x hx; exact heap_lt hcur
  have hold : ∀ {k f}, X.file k = some f → ∀ x, (dv k).ownBlock = some x → x < w.heap.size := fun {k f} e x hx => by obtain ⟨cur, hcur⟩ := (h.file k f e).1.2.blk x hx; exact heap_lt hcur
  refine ⟨h1.row, h1.gS, h1.now, h1.nS, ?_, ?_⟩
  · intro k f e
    simp only at e ⊢
    by_cases hk : k = nb
    · subst hk
      rw [if_pos rfl] at e ⊢
      cases e
      exact ⟨hf, hT2 _ hn hf.1.lt, fun x hx => hT2 _ (hd x hx) (hlt hx)⟩
    · rw [if_neg hk] at e ⊢
      exact h1.file k f e
  · intro k k' hne h2 h3 x hx hx'
    simp only at h2 h3 hx hx'
    by_cases hk : k = nb
    · rw [if_pos hk] at hx
      rw [if_neg (fun e => hne (by rw [hk, e]))] at h3 hx'
      obtain ⟨f0, hf0⟩ := Option.isSome_iff_exists.1 h3
      have := hold hf0 x hx'
      have := hd x hx; omega
    · rw [if_neg hk] at h2 hx
      by_cases hk' : k' = nb
      · rw [if_pos hk'] at hx'
        obtain ⟨f0, hf0⟩ := Option.isSome_iff_exists.1 h2
        have := hold hf0 x hx
        have := hd x hx'; omega
      · rw [if_neg hk'] at h3 hx'
        exact h.apart k k' hne h2 h3 x hx hx'
theorem Mk.turn (h : Mk w g S X bn dv) (hg : w.grownBy w' (some bn)) {D : DataW Unit} (hd : Dir w' bn D) : Mk w' g S { X with now := D } bn dv := by
  obtain ⟨es, cl, hn, _⟩ := h.now
  have hs : ∀ {k : Nat} {cs : Array Value} {t : TypeId} {fr : Nat × Nat}, w.heap[k]? = some (.cells cs t fr) → w'.heap[k]? = w.heap[k]? := fun {k cs t fr} e =>
    hg.block k (heap_lt e) (fun x => kind_ne e hn (by intro y; cases y) (Option.some.inj x))
  exact ⟨Blk.of (hs h.row) h.row, h.gS, hd, h.nS, fun b f e => by
    obtain ⟨h1, h2, h3⟩ := h.file b f e
    exact ⟨h1.to (hs h1.1) fun k cur e _ => hs e, h2, h3⟩, h.apart⟩
/-- The head alone is turned. -/
theorem Mk.head (h : Mk w g S X bn dv) (hs : ∀ k, k ≠ g → w'.heap[k]? = w.heap[k]?) {cr : Int}
    (hr : Blk w' g 61 [.int .i64 0, .bool false, .int .i64 0, .slice none 0 0, .int .i64 X.room, .int .i64 cr, .map (some bn), .map none, .slice none 0 0]) : Mk w' g S { X with created := cr } bn dv := by
  have ct : ∀ {cs cs' : Array Value} {t t' : TypeId} {fr fr' : Nat × Nat}, t ≠ t' → Obj.cells cs t fr ≠ .cells cs' t' fr' := fun hne e => by injection e with _ e2 _; exact hne e2
  obtain ⟨es, cl, hn, _⟩ := h.now
  exact ⟨hr, h.gS, h.now.to (hs _ (kind_ne hn h.row (by intro y; cases y))), h.nS, fun b f e => by
    obtain ⟨h1, h2, h3⟩ := h.file b f e
    exact ⟨h1.to (hs _ (kind_ne h1.1 h.row (ct (by decide)))) fun k cur e _ => hs _ (kind_ne e h.row (ct (by decide))), h2, h3⟩, h.apart⟩
/-- It is made. -/
theorem Mk.done (h : Mk w g S X bn dv) (hs : ∀ k, k < w.heap.size → k ≠ g → w'.heap[k]? = w.heap[k]?) (hT : ∀ k, S k → T k) {bs : Nat}
    (hr : Blk w' g 61 [.int .i64 0, .bool false, .int .i64 0, .slice none 0 0, .int .i64 X.room, .int .i64 X.created, .map (some bn), .map (some bs), .slice none 0 0]) (hd : Dir w' bs X.now) (hbs : w.heap.size ≤ bs) (hbT : T bs)
    (hX : X.count = 0 ∧ X.armed = false ∧ X.left = 0 ∧ X.plan = [] ∧ X.since = []) : FsM w' g T { X with sure := X.now } (.slice none 0 0) bn bs (.slice none 0 0) [] dv := by
  have ct : ∀ {cs cs' : Array Value} {t t' : TypeId} {fr fr' : Nat × Nat}, t ≠ t' → Obj.cells cs t fr ≠ .cells cs' t' fr' := fun hne e => by injection e with _ e2 _; exact hne e2
  obtain ⟨es, cl, hn, _⟩ := h.now
  obtain ⟨h1, h2, h3, h4, h5⟩ := hX
  refine { row := ?_, gS := hT _ h.gS, plan := .inl ⟨rfl, h4⟩, planS := (fun k hk => by cases hk), now := h.now.to (hs _ (heap_lt hn) (kind_ne hn h.row (by intro y; cases y))), nS := hT _ h.nS, sure := hd, sS := hbT, ne := ?_, since := World.ownsRow_nil _ _ _ _, sinceS := (fun k hk => by cases hk), cloL := ?_, clo := ?_, file := ?_, apart := h.apart }
  · rw [show ({ X with sure := X.now } : FsA).count = 0 from h1, show ({ X with sure := X.now } : FsA).armed = false from h2, show ({ X with sure := X.now } : FsA).left = 0 from h3]; exact hr
  · have := heap_lt hn; omega
  · show 0 = X.since.length; rw [h5]; rfl
  · intro i c e
    rw [show ({ X with sure := X.now } : FsA).since = [] from h5] at e
    cases e
  · intro b f e
    obtain ⟨k1, k2, k3⟩ := h.file b f e
    exact ⟨k1.to (hs _ k1.1.lt (kind_ne k1.1 h.row (ct (by decide)))) fun k cur e _ => hs _ (heap_lt e) (kind_ne e h.row (ct (by decide))), hT _ k2, fun k o => hT _ (k3 k o)⟩
end
/-- A store into a directory, as a step of a region. -/
theorem step_put {ops : Array Oper} {o : Oper} {a : Act} {w : World} {K : Act → World → Prop} {Q : Exit → Act → World → Prop} {E : Prop} (hgd : o.guard = none) (m x v : Operand) (hop : o.op = Op.mapUpdate 54 m x v)
    (b : Nat) (D : DataW Unit) (s : ByteArray) (y : Nat) (hm : a.eval m = .map (some b)) (hd : Dir w b D) (hz : Maps.size D < 1000000) (hx : a.eval x = .string s) (hs : s.size ≤ 1000) (hv : a.eval v = .pointer (some ⟨y, 0, none⟩))
    (h : ∀ w', Dir w' b (D.put (keyL s) (.lit (.int .i64 y))) → w.grownBy w' (some b) → K (a.put o.dst undef) w') : if Region.wanted o (yielded ops a.tmps) = true then Oper.wp Try.prog o a w K Q else E := by
  refine step_plain hgd ?_
  obtain ⟨w', hrun, r1, r2⟩ := World.ownsMap.update hd law9 Try.underlying54 (by unfold maxLen; omega) (key9 (s := s) (by unfold maxLen; omega)) (ptrElem_of (some y))
  have hrun' : (Instr.mapUpdate 54 (.map (some b)) (.string s) (.pointer (some ⟨y, 0, none⟩))).run Try.prog w = .ok () w' := hrun
  unfold Oper.wp
  simp [execOp, hop, hm, hx, hv, hrun', Result.andThen]
  exact h w' (Dir.of r1) r2
end Go.Proofs.Ytpfbiijcmmkjlaa
