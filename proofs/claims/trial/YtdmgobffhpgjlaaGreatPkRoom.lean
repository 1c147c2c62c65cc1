/-
  What a nil disk answers; the sum of all sizes; names that rise.
-/
import Derived.Test.YtdmgobffhpgjlaaGreatPkFails
namespace Go.Proofs.YtdmgobffhpgjlaaGreat.Pk
open Go.RowKit Go.PlainAid Go.Maps
set_option linter.unusedVariables false
set_option maxRecDepth 20000
set_option linter.unusedSimpArgs false

theorem flip {P : Program} {f : Nat} {args : Array Value} {w : World} {v : Value} (h : Calls P f args w fun e w' => e = .returned v ∧ w = w') : Calls P f args w fun e w' => e = .returned v ∧ w' = w :=
  h.mono fun _ _ ⟨a, b⟩ => ⟨a, b.symm⟩
/-! ### sizes -/
theorem size_at {D : Dk} (h : Up D.L) {f : Fi} (hf : f ∈ D.L) : D.size f.nm = (f.bs.length : Int) ∧ D.bytes f.nm = f.bs ∧ D.safe f.nm = (f.sf : Int) := by
  unfold Dk.size Dk.bytes Dk.safe
  rw [get_mem h hf]
  exact ⟨rfl, rfl, rfl⟩
end Go.Proofs.YtdmgobffhpgjlaaGreat.Pk
