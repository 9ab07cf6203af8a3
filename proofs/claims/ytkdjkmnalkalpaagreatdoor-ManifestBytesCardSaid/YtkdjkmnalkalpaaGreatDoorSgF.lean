/- Package seglog: frames with their segment's id. Files of bytes; what reading segments makes of them. Plain; nothing is walked. Package seglog: 'Read'. -/
import Derived.Test.YtkdjkmnalkalpaaGreatDoorSgC
namespace Go.Proofs.YtkdjkmnalkalpaaGreatDoor
open Go.RowKit
set_option maxRecDepth 100000
set_option maxRecDepth 100000

abbrev EntT := Int × Int × List Int × Value
def cellsE (es : List EntT) : List Value := es.flatMap fun t => [.int .i64 t.1, .int .i64 t.2.1, t.2.2.2]
structure Ents (w : World) (base : Nat) (v : Value) (es : List EntT) : Prop where
  own : w.ownsRow base 306 3 v es.length (cellsE es)
  pay : ∀ t ∈ es, Fr.OwnB w base t.2.2.2 t.2.2.1
theorem own_mono {w : World} {base base' e size : Nat} {v : Value} {n : Nat} {cs : List Value} (h : w.ownsRow base e size v n cs) (hb : base' ≤ base) : w.ownsRow base' e size v n cs := by
  refine ⟨h.1, ?_⟩
  rcases h.2 with h1 | ⟨g, cap, cur, h1, h2, h3, h4⟩
  · exact .inl h1
  · exact .inr ⟨g, cap, cur, h1, Nat.le_trans hb h2, h3, h4⟩
theorem Ents.mono {w : World} {base base' : Nat} {v : Value} {es : List EntT} (h : Ents w base v es) (hb : base' ≤ base) : Ents w base' v es :=
  ⟨own_mono h.own hb, fun t ht => own_mono (h.pay t ht) hb⟩
theorem Ents.slice {w : World} {base : Nat} {v : Value} {es : List EntT} (h : Ents w base v es) : ∃ a c, v = .slice a es.length c := by
  rcases h.own.2 with ⟨rfl, h0⟩ | ⟨g, cap, cur, rfl, _⟩
  · exact ⟨none, 0, by rw [h0]⟩
  · exact ⟨_, _, rfl⟩
end Go.Proofs.YtkdjkmnalkalpaaGreatDoor
namespace Go.Proofs.YtkdjkmnalkalpaaGreatDoor
open Go.RowKit
set_option maxRecDepth 100000
set_option maxRecDepth 100000

def ByA (A : FsA) : Prop := ∀ b f, A.file b = some f → Fr.Byt f.data
section
variable {A B : FsA}
end
end Go.Proofs.YtkdjkmnalkalpaaGreatDoor
namespace Go.Proofs.YtkdjkmnalkalpaaGreatDoor
open Go.RowKit
set_option maxRecDepth 100000
set_option maxRecDepth 100000

section
variable {w0 w : World} {g n : Nat} {S : Nat → Prop} {A : FsA}
end
end Go.Proofs.YtkdjkmnalkalpaaGreatDoor
