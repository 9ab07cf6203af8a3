/- Two arrays of the same numbers are equal. Plain; nothing of the program. -/
import Derived.Test.YtigpccfglicjeaaArr
import Derived.ChangeKeysEq
import Derived.Laws.StructEq
namespace Go.Proofs.Ytigpccfglicjeaa
open Go.RowKit
theorem run_items_same {P : Program} {e n : Nat} {k : IntKind} (d : Nat) (he : P.underlying e = some (.int k)) (ha : ∀ w, (isAgg e).run P w = .ok false w) (cs : Array Value)
    (hc : ∀ i, i < n → ∃ z, cs[i]? = some (.int k z)) (w : World) : ∀ l : List Nat, (∀ i ∈ l, i < n) → (Op.eqItems (d + 1) e 1 cs cs l).run P w = .ok true w
  | [], _ => rfl
  | j :: l, h => by
    obtain ⟨z, hz⟩ := hc j (h j (by simp))
    have hp : (part e cs (j * 1)).run P w = .ok (.int k z) w := by simp [part, Sem.run_bind, ha, hz]
    simp only [Op.eqItems, Sem.run_bind, hp, Result.andThen_ok, run_equalIn_int w d e k k z z he]
    simpa using run_items_same d he ha cs hc w l fun i hi => h i (by simp [hi])
theorem run_eq_same {P : Program} {T e n : Nat} {k : IntKind} (d : Nat) (hu : P.underlying T = some (.array n e)) (he : P.underlying e = some (.int k)) (ha : ∀ w, (isAgg e).run P w = .ok false w)
    {i : TypeInfo} (hi : P.info? e = some i) (hs : P.cellsOf e = 1) (cs : Array Value) (hc : ∀ i, i < n → ∃ z, cs[i]? = some (.int k z)) (w : World) :
    (Op.equalIn (d + 2) T (.agg cs) (.agg cs)).run P w = .ok true w := by
  rw [run_equalIn_array w (d + 1) cs cs hu hi, hs]
  exact run_items_same d he ha cs hc w _ fun i hi => List.mem_range.1 hi
end Go.Proofs.Ytigpccfglicjeaa
