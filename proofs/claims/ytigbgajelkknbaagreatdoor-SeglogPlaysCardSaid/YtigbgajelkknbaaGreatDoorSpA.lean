/- SeglogPlays: what both read of segments is the same; a script in memory; what stands in a round. Plain; nothing is walked. -/
import Derived.Test.YtigbgajelkknbaaGreatDoorSgZ
import Derived.Test.YtigbgajelkknbaaGreatDoorFsPt
namespace Go.Proofs.YtigbgajelkknbaaGreatDoor
open Go.RowKit Go.Maps Go.WideMaps
set_option maxRecDepth 100000

theorem reads_ok {A : FsA} {l : List Int} {es : List (Int × Int × List Int)} {b : Bool} (h : ReadsA A l es b) : ∀ id ∈ l, (readA A (nameV id)).2 = 0 := by
  induction h with
  | nil => intro id hid; cases hid
  | snoc _ h2 _ ih =>
    intro id hid
    rcases List.mem_append.1 hid with hid | hid
    · exact ih id hid
    · rw [List.mem_singleton] at hid; subst hid; exact h2
theorem reads_same {A : FsA} {l : List Int} {es : List (Int × Int × List Int)} {b : Bool} (h : ReadsA A l es b) : ∀ {es' : List (Int × Int × List Int)} {b' : Bool}, ReadsA A l es' b' → es = es' ∧ b = b' := by
  induction h with
  | nil =>
    intro es' b' h'
    rcases h'.inv with ⟨_, h1, h2⟩ | ⟨_, _, _, _, _, _, he, _⟩
    · exact ⟨h1.symm, h2.symm⟩
    · simp at he
  | @snoc ids es0 b0 id fs m h1 h2 h3 ih =>
    intro es' b' h'
    rcases h'.inv with ⟨he, _⟩ | ⟨ids2, es2, b2, id2, fs2, m2, he, k1, k2, k3, k4, k5⟩
    · simp at he
    · obtain ⟨rfl, hid⟩ := List.append_inj' he rfl
      simp only [List.cons.injEq, and_true] at hid
      subst hid
      obtain ⟨rfl, _⟩ := ih k1
      obtain ⟨rfl, rfl⟩ := h3.same k3
      exact ⟨k4.symm, k5.symm⟩
/-- What both answer. -/
theorem read_agree {w1 w2 w3 : World} {A : FsA} {ids : List Int} {e e' : Ending} (hq : ReadQ w1 A ids e w2) (hq' : RefReadQ w2 A ids e' w3) :
    ∃ v v' es b c, e = .returned (.tuple #[v, .bool b, .int .i64 c]) ∧ e' = .returned (.tuple #[v', .bool b, .int .i64 c]) ∧ Ents w2 w1.heap.size v es ∧ EntQ w3 w2.heap.size v' (plainE es) ∧ es.length ≤ ids.length * 10000 ∧ Below w1.heap.size w1 w2 ∧ Below w2.heap.size w2 w3 := by
  obtain ⟨hb, hq⟩ := hq
  obtain ⟨hb', hq'⟩ := hq'
  have bad : ∀ (i : Nat) es b, i < ids.length → ReadsA A (ids.take i) es b → (readA A (nameV (ids.getD i 0))).2 ≠ 0 → ∀ i' es' b', i' < ids.length → ReadsA A (ids.take i') es' b' → (readA A (nameV (ids.getD i' 0))).2 ≠ 0 → i = i' := by
    intro i es b hi h1 h2 i' es' b' hi' h1' h2'
    rcases Nat.lt_trichotomy i i' with h | h | h
    · refine absurd (reads_ok h1' (ids.getD i 0) ?_) h2
      rw [List.getD_eq_getElem?_getD, List.getElem?_eq_getElem hi]
      exact List.mem_of_getElem? (i := i) (by rw [List.getElem?_take_of_lt h, List.getElem?_eq_getElem hi]; rfl)
    · exact h
    · refine absurd (reads_ok h1 (ids.getD i' 0) ?_) h2'
      rw [List.getD_eq_getElem?_getD, List.getElem?_eq_getElem hi']
      exact List.mem_of_getElem? (i := i') (by rw [List.getElem?_take_of_lt h, List.getElem?_eq_getElem hi']; rfl)
  have allok : ∀ es b, ReadsA A ids es b → ∀ i, i < ids.length → (readA A (nameV (ids.getD i 0))).2 = 0 := fun es b h i hi => reads_ok h _ (getD_mem hi)
  rcases hq with ⟨⟨id, h1, h2⟩, rfl⟩ | ⟨hall, hq⟩
  · rcases hq' with ⟨_, rfl⟩ | ⟨hall', _⟩
    · exact ⟨_, _, [], _, _, rfl, rfl, Ents.nil _ _, EntQ.nil _ _, Nat.zero_le _, hb, hb'⟩
    · exact absurd (hall' id h1) h2
  · rcases hq' with ⟨⟨id, h1, h2⟩, _⟩ | ⟨_, hq'⟩
    · exact absurd (hall id h1) h2
    · rcases hq with ⟨v, es, b, rfl, h1, h2, h3⟩ | ⟨i, es, b, hi, h1, h2, rfl⟩
      · rcases hq' with ⟨v', es', b', rfl, k1, k2, k3⟩ | ⟨i', es', b', hi', k1, k2, _⟩
        · obtain ⟨he, rfl⟩ := reads_same h1 k1
          exact ⟨v, v', es, b, 0, rfl, rfl, h2, by rw [he]; exact k2, h3, hb, hb'⟩
        · exact absurd (allok _ _ h1 i' hi') k2
      · rcases hq' with ⟨v', es', b', rfl, k1, k2, k3⟩ | ⟨i', es', b', hi', k1, k2, rfl⟩
        · exact absurd (allok _ _ k1 i hi) h2
        · obtain rfl := bad i es b hi h1 h2 i' es' b' hi' k1 k2
          exact ⟨_, _, [], _, _, rfl, rfl, Ents.nil _ _, EntQ.nil _ _, Nat.zero_le _, hb, hb'⟩
/-- The script lies in memory. -/
def OpsAtG (w : World) (v : Value) (ops : List OpG) : Prop :=
  (v = .slice none 0 0 ∧ ops = []) ∨ ∃ b o cap, v = .slice (some ⟨b, o, none⟩) ops.length cap ∧ b < w.heap.size ∧ ∀ (i : Nat) (op : OpG), ops[i]? = some op → ∃ pv dv lv, Fr.Parts w pv op.parts ∧ Bytes w dv op.fs.data ∧ RPlan w lv op.fs.nums ∧
    ∀ W : World, W.heap[b]? = w.heap[b]? → (W.cell? ⟨b, o + i * 10, none⟩ = some (.int .i64 op.kind) ∧ W.cell? ⟨b, o + i * 10 + 1, none⟩ = some (.int .i64 op.id) ∧ W.cell? ⟨b, o + i * 10 + 2, none⟩ = some (.int .i64 op.type) ∧ W.cell? ⟨b, o + i * 10 + 3, none⟩ = some pv ∧
      W.cell? ⟨b, o + i * 10 + 4, none⟩ = some (.int .i64 op.fs.kind) ∧ W.cell? ⟨b, o + i * 10 + 5, none⟩ = some (.int .i64 op.fs.num) ∧ W.cell? ⟨b, o + i * 10 + 6, none⟩ = some (.string op.fs.name) ∧ W.cell? ⟨b, o + i * 10 + 7, none⟩ = some (.string op.fs.dest) ∧ W.cell? ⟨b, o + i * 10 + 8, none⟩ = some dv ∧ W.cell? ⟨b, o + i * 10 + 9, none⟩ = some lv)
/-- Its numbers are a machine's, its parts of bytes. -/
def OpsOkG (ops : List OpG) : Prop := ∀ op ∈ ops, op.fs.name.size ≤ 9223372036854775807 ∧ op.fs.dest.size ≤ 9223372036854775807 ∧ op.fs.num ≤ 9223372036854775807 ∧ (∀ k ∈ op.fs.nums, k ≤ 9223372036854775807) ∧ Fr.Byt op.fs.data ∧ op.parts.length < 9223372036854775808 ∧ ∀ i, i < op.parts.length → Fr.Byt (op.parts.getD i [])
theorem OpsAtG.slice {w : World} {v : Value} {ops : List OpG} (h : OpsAtG w v ops) : ∃ a c, v = .slice a ops.length c := by
  rcases h with ⟨rfl, rfl⟩ | ⟨b, o, cap, rfl, _⟩
  · exact ⟨_, _, rfl⟩
  · exact ⟨_, _, rfl⟩
theorem flat_byt {ps : List (List Int)} (h : ∀ i, i < ps.length → Fr.Byt (ps.getD i [])) : Fr.Byt ps.flatten := fun z hz => by
  obtain ⟨p, hp, hz⟩ := List.mem_flatten.1 hz
  obtain ⟨i, hi, rfl⟩ := List.getElem_of_mem hp
  have := h i hi
  rw [List.getD_eq_getElem?_getD, List.getElem?_eq_getElem hi] at this
  exact this z hz
end Go.Proofs.YtigbgajelkknbaaGreatDoor
