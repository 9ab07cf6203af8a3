/- Package simfs: what a crash leaves of a file. Package simfs: 'Crash', its parts. Package simfs: 'Crash'. -/
import Derived.Test.YtpfbiijcmmkjlaaDoorFsP
import Derived.Deep.RegionHeld3
namespace Go.Proofs.YtpfbiijcmmkjlaaDoor
open Go.RowKit Go.Maps Go.WideMaps
set_option maxRecDepth 100000

theorem quiet_left {P : Program} {f : FuncId} {args : Array Value} {w : World} {n : Nat} {v : Value}
    (h : Calls P f args (w.drewN n) fun e w' => e = .returned v ∧ w.drewN n = w') : Calls P f args (w.drewN n) fun e w'' => e = .returned v ∧ ∃ m, w'' = w.drewN m :=
  h.mono fun _ _ ⟨he, hm⟩ => ⟨he, n, hm.symm⟩
theorem own_base {w : World} {base e size : Nat} {v : Value} {n : Nat} {xs : List Value} (h : w.ownsRow base e size v n xs) : w.ownsRow 0 e size v n xs := by
  refine ⟨h.1, ?_⟩
  rcases h.2 with hq | ⟨y, cap', cur', h1, h2, h3⟩
  · exact .inl hq
  · exact .inr ⟨y, cap', cur', h1, Nat.zero_le _, h3⟩
/-- The value v is a slice of these numbers, wherever. -/
def Ints (w : World) (v : Value) (p : List Int) : Prop :=
  (v = .slice none 0 0 ∧ p = []) ∨ ∃ pb po cap, v = .slice (some ⟨pb, po, none⟩) p.length cap ∧ pb < w.heap.size ∧ w.rangeAt pb po (p.map (Value.int .i64))
theorem Ints.slice {w : World} {v : Value} {p : List Int} (h : Ints w v p) : ∃ a c, v = .slice a p.length c := by
  rcases h with ⟨rfl, rfl⟩ | ⟨pb, po, cap, rfl, _⟩
  · exact ⟨_, _, rfl⟩
  · exact ⟨_, _, rfl⟩
theorem Ints.below {w w' : World} {v : Value} {p : List Int} (h : Ints w v p) (hb : Below w.heap.size w w') : Ints w' v p := by
  rcases h with h | ⟨pb, po, cap, rfl, h3, h4⟩
  · exact Or.inl h
  · exact Or.inr ⟨pb, po, cap, rfl, Nat.lt_of_lt_of_le h3 hb.size, fun j u hu => by rw [World.cell?_of_block (w := w) (hb.block pb h3)]; exact h4 j u hu⟩
/-- How many bytes are left of a file. -/
def leftN (f : Fil) (tail : Int) : Nat := f.sure + (withinOf tail ((f.data.length : Int) - f.sure)).toNat
theorem leftN_le (f : Fil) (tail : Int) (h : f.sure ≤ f.data.length) : leftN f tail ≤ f.data.length := by unfold leftN withinOf; omega
def crashedF (f : Fil) (tail num : Int) : Fil := ⟨num, f.data.take (leftN f tail), leftN f tail⟩

end Go.Proofs.YtpfbiijcmmkjlaaDoor
namespace Go.Proofs.YtpfbiijcmmkjlaaDoor
open Go.RowKit Go.Maps Go.WideMaps

theorem size_ap_le {D : DataW Unit} (h : Maps.Tidy D) (c : Chg) : Maps.size (c.ap D) ≤ Maps.size D + 1 := by
  cases c with
  | create n b => show Maps.size (D.put _ _) ≤ _; rw [size_put h]; split <;> omega
  | rename a b =>
    show Maps.size ((D.del _).put _ _) ≤ _
    rw [size_put (h.del _)]
    have := size_del (k := keyL a) h
    split <;> omega
  | remove a => show Maps.size (D.del _) ≤ _; have := size_del (k := keyL a) h; omega

/-- A file system that is being made: its sure directory isn't there yet. -/
structure Mk (w : World) (g : Nat) (S : Nat → Prop) (X : FsA) (bn : Nat) (dv : Nat → Value) : Prop where
  row : Blk w g 62 [.int .i64 0, .bool false, .int .i64 0, .slice none 0 0, .int .i64 X.room, .int .i64 X.created, .map (some bn), .map none, .slice none 0 0]
  gS : S g
  now : Dir w bn X.now
  nS : S bn
  file : ∀ b f, X.file b = some f → FileAt w b (dv b) f ∧ S b ∧ ∀ k, (dv b).ownBlock = some k → S k
  apart : ∀ b b', b ≠ b' → (X.file b).isSome = true → (X.file b').isSome = true → ∀ k, (dv b).ownBlock = some k → (dv b').ownBlock ≠ some k
section
variable {w w' : World} {g : Nat} {S T : Nat → Prop} {X : FsA} {bn : Nat} {dv : Nat → Value}
theorem Mk.to (h : Mk w g S X bn dv) (hT : ∀ k, S k → T k) (hs : ∀ k, k < w.heap.size → w'.heap[k]? = w.heap[k]?) : Mk w' g T X bn dv where
  row := Blk.of (hs _ h.row.lt) h.row
  gS := hT _ h.gS
  now := h.now.to (hs _ h.now.lt)
  nS := hT _ h.nS
  file := fun b f e => by
    obtain ⟨h1, h2, h3⟩ := h.file b f e
    exact ⟨h1.to (hs b h1.1.lt) fun k cur e _ => hs k (heap_lt e), hT _ h2, fun k o => hT _ (h3 k o)⟩
  apart := h.apart
theorem Mk.addFile (h : Mk w g S X bn dv) {nb : Nat} {d' : Value} {f' : Fil} (hB : Below w.heap.size w w') (hf : FileAt w' nb d' f') (hn : w.heap.size ≤ nb) (hd : ∀ k, d'.ownBlock = some k → w.heap.size ≤ k)
    (hT : ∀ k, S k → T k) (hT2 : ∀ k, w.heap.size ≤ k → k < w'.heap.size → T k) :
    Mk w' g T { X with file := fun k => if k = nb then some f' else X.file k } bn (fun k => if k = nb then d' else dv k) := by
  have h1 := h.to hT hB.block
  have hlt : ∀ {x}, d'.ownBlock = some x → x < w'.heap.size := fun {x} hx => by obtain ⟨cur, hcur⟩ := hf.2.blk x hx; exact heap_lt hcur
  have hold : ∀ {k f}, X.file k = some f → ∀ x, (dv k).ownBlock = some x → x < w.heap.size := fun {k f} e x hx => by obtain ⟨cur, hcur⟩ := (h.file k f e).1.2.blk x hx; exact heap_lt hcur
  refine ⟨h1.row, h1.gS, h1.now, h1.nS, ?_, ?_⟩
  · intro k f e
    simp only at e ⊢
    by_cases hk : k = nb
    · subst hk
      rw [if_pos rfl] at e ⊢
      cases e
      exact ⟨hf, hT2 _ hn hf.1.lt, fun x hx => hT2 _ (hd x hx) (hlt hx)⟩
    · rw [if_neg hk] at e ⊢
      exact h1.file k f e
  · intro k k' hne h2 h3 x hx hx'
    simp only at h2 h3 hx hx'
    by_cases hk : k = nb
    · rw [if_pos hk] at hx
      rw [if_neg (fun e => hne (by rw [hk, e]))] at h3 hx'
      obtain ⟨f0, hf0⟩ := Option.isSome_iff_exists.1 h3
      have := hold hf0 x hx'
      have := hd x hx; omega
    · rw [if_neg hk] at h2 hx
      by_cases hk' : k' = nb
      · rw [if_pos hk'] at hx'
        obtain ⟨f0, hf0⟩ := Option.isSome_iff_exists.1 h2
        have := hold hf0 x hx
        have := hd x hx'; omega
      · rw [if_neg hk'] at h3 hx'
        exact h.apart k k' hne h2 h3 x hx hx'
theorem Mk.turn (h : Mk w g S X bn dv) (hg : w.grownBy w' (some bn)) {D : DataW Unit} (hd : Dir w' bn D) : Mk w' g S { X with now := D } bn dv := by
  obtain ⟨es, cl, hn, _⟩ := h.now
  have hs : ∀ {k : Nat} {cs : Array Value} {t : TypeId} {fr : Nat × Nat}, w.heap[k]? = some (.cells cs t fr) → w'.heap[k]? = w.heap[k]? := fun {k cs t fr} e =>
    hg.block k (heap_lt e) (fun x => kind_ne e hn (by intro y; cases y) (Option.some.inj x))
  exact ⟨Blk.of (hs h.row) h.row, h.gS, hd, h.nS, fun b f e => by
    obtain ⟨h1, h2, h3⟩ := h.file b f e
    exact ⟨h1.to (hs h1.1) fun k cur e _ => hs e, h2, h3⟩, h.apart⟩
/-- The head alone is turned. -/
theorem Mk.head (h : Mk w g S X bn dv) (hs : ∀ k, k ≠ g → w'.heap[k]? = w.heap[k]?) {cr : Int}
    (hr : Blk w' g 62 [.int .i64 0, .bool false, .int .i64 0, .slice none 0 0, .int .i64 X.room, .int .i64 cr, .map (some bn), .map none, .slice none 0 0]) : Mk w' g S { X with created := cr } bn dv := by
  have ct : ∀ {cs cs' : Array Value} {t t' : TypeId} {fr fr' : Nat × Nat}, t ≠ t' → Obj.cells cs t fr ≠ .cells cs' t' fr' := fun hne e => by injection e with _ e2 _; exact hne e2
  obtain ⟨es, cl, hn, _⟩ := h.now
  exact ⟨hr, h.gS, h.now.to (hs _ (kind_ne hn h.row (by intro y; cases y))), h.nS, fun b f e => by
    obtain ⟨h1, h2, h3⟩ := h.file b f e
    exact ⟨h1.to (hs _ (kind_ne h1.1 h.row (ct (by decide)))) fun k cur e _ => hs _ (kind_ne e h.row (ct (by decide))), h2, h3⟩, h.apart⟩
/-- It is made. -/
theorem Mk.done (h : Mk w g S X bn dv) (hs : ∀ k, k < w.heap.size → k ≠ g → w'.heap[k]? = w.heap[k]?) (hT : ∀ k, S k → T k) {bs : Nat}
    (hr : Blk w' g 62 [.int .i64 0, .bool false, .int .i64 0, .slice none 0 0, .int .i64 X.room, .int .i64 X.created, .map (some bn), .map (some bs), .slice none 0 0]) (hd : Dir w' bs X.now) (hbs : w.heap.size ≤ bs) (hbT : T bs)
    (hX : X.count = 0 ∧ X.armed = false ∧ X.left = 0 ∧ X.plan = [] ∧ X.since = []) : FsM w' g T { X with sure := X.now } (.slice none 0 0) bn bs (.slice none 0 0) [] dv := by
  have ct : ∀ {cs cs' : Array Value} {t t' : TypeId} {fr fr' : Nat × Nat}, t ≠ t' → Obj.cells cs t fr ≠ .cells cs' t' fr' := fun hne e => by injection e with _ e2 _; exact hne e2
  obtain ⟨es, cl, hn, _⟩ := h.now
  obtain ⟨h1, h2, h3, h4, h5⟩ := hX
  refine { row := ?_, gS := hT _ h.gS, plan := .inl ⟨rfl, h4⟩, planS := (fun k hk => by cases hk), now := h.now.to (hs _ (heap_lt hn) (kind_ne hn h.row (by intro y; cases y))), nS := hT _ h.nS, sure := hd, sS := hbT, ne := ?_, since := World.ownsRow_nil _ _ _ _, sinceS := (fun k hk => by cases hk), cloL := ?_, clo := ?_, file := ?_, apart := h.apart }
  · rw [show ({ X with sure := X.now } : FsA).count = 0 from h1, show ({ X with sure := X.now } : FsA).armed = false from h2, show ({ X with sure := X.now } : FsA).left = 0 from h3]; exact hr
  · have := heap_lt hn; omega
  · show 0 = X.since.length; rw [h5]; rfl
  · intro i c e
    rw [show ({ X with sure := X.now } : FsA).since = [] from h5] at e
    cases e
  · intro b f e
    obtain ⟨k1, k2, k3⟩ := h.file b f e
    exact ⟨k1.to (hs _ k1.1.lt (kind_ne k1.1 h.row (ct (by decide)))) fun k cur e _ => hs _ (heap_lt e) (kind_ne e h.row (ct (by decide))), hT _ k2, fun k o => hT _ (k3 k o)⟩
end
/-- A store into a directory, as a step of a region. -/
theorem step_put {ops : Array Oper} {o : Oper} {a : Act} {w : World} {K : Act → World → Prop} {Q : Exit → Act → World → Prop} {E : Prop} (hgd : o.guard = none) (m x v : Operand) (hop : o.op = Op.mapUpdate 55 m x v)
    (b : Nat) (D : DataW Unit) (s : ByteArray) (y : Nat) (hm : a.eval m = .map (some b)) (hd : Dir w b D) (hz : Maps.size D < 1000000) (hx : a.eval x = .string s) (hs : s.size ≤ 1000) (hv : a.eval v = .pointer (some ⟨y, 0, none⟩))
    (h : ∀ w', Dir w' b (D.put (keyL s) (.lit (.int .i64 y))) → w.grownBy w' (some b) → K (a.put o.dst undef) w') : if Region.wanted o (yielded ops a.tmps) = true then Oper.wp Tryd.prog o a w K Q else E := by
  refine step_plain hgd ?_
  obtain ⟨w', hrun, r1, r2⟩ := World.ownsMap.update hd law9 Tryd.underlying55 (by unfold maxLen; omega) (key9 (s := s) (by unfold maxLen; omega)) (ptrElem_of (some y))
  have hrun' : (Instr.mapUpdate 55 (.map (some b)) (.string s) (.pointer (some ⟨y, 0, none⟩))).run Tryd.prog w = .ok () w' := hrun
  unfold Oper.wp
  simp [execOp, hop, hm, hx, hv, hrun', Result.andThen]
  exact h w' (Dir.of r1) r2
end Go.Proofs.YtpfbiijcmmkjlaaDoor
namespace Go.Proofs.YtpfbiijcmmkjlaaDoor
open Go.RowKit Go.Maps Go.WideMaps

/-- The directory that was sure with the first changes since. -/
def preD (A : FsA) (i : Nat) : DataW Unit := (A.since.take i).foldl Chg.ap A.sure
def leftD (A : FsA) (dirs : Int) : DataW Unit := preD A (withinOf dirs A.since.length).toNat
theorem preD_succ (A : FsA) (i : Nat) (c : Chg) (h : A.since[i]? = some c) : preD A (i + 1) = c.ap (preD A i) := by
  unfold preD
  obtain ⟨hi, rfl⟩ := List.getElem?_eq_some_iff.1 h
  rw [List.take_succ_eq_append_getElem hi, List.foldl_append]; rfl
def fileOf (A : FsA) (L : DataW Unit) (s : List UInt8) : Fil := ((dget L ⟨s.toArray⟩).bind A.file).getD ⟨0, [], 0⟩
/-- One file of what is left. -/
def crashStep (A : FsA) (L : DataW Unit) (tails : List Int) (X : FsA) (sb : List UInt8 × Nat) : FsA :=
  { X with file := fun k => if k = sb.2 then some (crashedF (fileOf A L sb.1) (tails.getD (fileOf A L sb.1).num.toNat 0) X.created) else X.file k, now := X.now.put (.string sb.1) (.lit (.int .i64 sb.2)), created := X.created + 1 }
def crashX (A : FsA) (L : DataW Unit) (tails : List Int) (l : List (List UInt8 × Nat)) : FsA := l.foldl (crashStep A L tails) (newA A.room)
theorem crashX_base (A : FsA) (L : DataW Unit) (tails : List Int) : ∀ (l : List (List UInt8 × Nat)) (X : FsA), X.count = 0 ∧ X.armed = false ∧ X.left = 0 ∧ X.plan = [] ∧ X.since = [] ∧ X.room = A.room →
    (l.foldl (crashStep A L tails) X).count = 0 ∧ (l.foldl (crashStep A L tails) X).armed = false ∧ (l.foldl (crashStep A L tails) X).left = 0 ∧ (l.foldl (crashStep A L tails) X).plan = [] ∧ (l.foldl (crashStep A L tails) X).since = [] ∧ (l.foldl (crashStep A L tails) X).room = A.room
  | [], _X, h => h
  | _p :: l, _X, h => crashX_base A L tails l _ h
/-- What a crash leaves. -/
def crashA (A : FsA) (dirs : Int) (tails : List Int) (bs : List Nat) : FsA :=
  { crashX A (leftD A dirs) tails ((namesD (leftD A dirs)).zip bs) with sure := (crashX A (leftD A dirs) tails ((namesD (leftD A dirs)).zip bs)).now }
/-- Of what a crash is asked. -/
structure Crashy (A : FsA) : Prop where
  len : A.since.length < 1000
  size : ∀ i, Maps.size (preD A i) < 1000
  ok : ∀ i, OkD A.file (preD A i)
  short : Short A
  num : ∀ b f, A.file b = some f → 0 ≤ f.num ∧ f.num < 4611686018427387904
  room : A.room < 4611686018427387904

/-- A name of a directory is a file's. -/
theorem name_file {fl : Nat → Option Fil} {L : DataW Unit} (h : OkD fl L) {s : List UInt8} (hs : s ∈ namesD L) : ∃ b f, dget L ⟨s.toArray⟩ = some b ∧ fl b = some f ∧ s.length ≤ 20 := by
  obtain ⟨es, rfl, hp⟩ := h
  unfold namesD at hs
  rw [List.mem_mergeSort] at hs
  obtain ⟨p, hpm, hps⟩ := List.mem_map.1 hs
  obtain ⟨s', _, _, h1, h2, _, _⟩ := hp p hpm
  have hse : s = s'.data.toList := by rw [← hps, h1]; rfl
  have hkey : keyL ⟨s.toArray⟩ = Lit.string s := by unfold keyL; simp
  cases hf : es.find? (fun p => p.1.sameKey (keyL ⟨s.toArray⟩)) with
  | none =>
    have := List.find?_eq_none.1 hf p hpm
    rw [hkey, h1] at this
    simp [keyL, Lit.sameKey, hse] at this
  | some q =>
    obtain ⟨_, b, f, _, _, h3, h4⟩ := hp q (List.mem_of_find?_eq_some hf)
    refine ⟨b, f, ?_, h4, by rw [hse]; simpa using h2⟩
    unfold dget DataW.atKey
    simp [hf, h3]

end Go.Proofs.YtpfbiijcmmkjlaaDoor
