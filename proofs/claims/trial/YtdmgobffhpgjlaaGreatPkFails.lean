/-
  Math of the law that a fault changes nothing.
-/
import Derived.Test.YtdmgobffhpgjlaaGreatPkActs
namespace Go.Proofs.YtdmgobffhpgjlaaGreat.Pk
open Go.RowKit Go.PlainAid Go.Maps
set_option linter.unusedVariables false
set_option maxRecDepth 20000
set_option linter.unusedSimpArgs false

theorem beg_calm {D : Dk} (hk : D.kd = 0) (ho : D.off = false) (g : Bool) : ((D.beg g).1 = 0 ∨ (D.beg g).1 = 1) ∧ (D.beg g).2.kd = 0 ∧ (D.beg g).2.off = false := by
  unfold Dk.beg
  cases g
  · exact ⟨.inr rfl, hk, ho⟩
  · rw [if_neg (by simp), if_neg (by simp [ho])]
    unfold Dk.fail
    rw [if_pos (.inl hk)]
    exact ⟨.inl rfl, hk, ho⟩
end Go.Proofs.YtdmgobffhpgjlaaGreat.Pk
