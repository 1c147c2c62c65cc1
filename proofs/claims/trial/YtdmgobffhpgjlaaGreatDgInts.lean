/-
  Rows of numbers and of bools among a law's arguments; the power comes again, with numbers that were handed in.
-/
import Derived.Test.YtdmgobffhpgjlaaGreatDgRow
import Derived.SliceStrings
import Derived.Deep.Slices

namespace Go.Proofs.YtdmgobffhpgjlaaGreat.Sl.Dg
open Go.RowKit Go.PlainAid Go.Proofs.YtdmgobffhpgjlaaGreat.Cr
open Go.Proofs.YtdmgobffhpgjlaaGreat.Pk (Bs Fi Dk kl HasD has_new KeepAt on_post zone DiskAt)
set_option linter.unusedVariables false
set_option maxRecDepth 20000
set_option linter.unusedSimpArgs false

theorem trod_int {H : Type} {enc : TypeId × Value → H} {P : Program} {w : World} {base : Nat} {spare : Nat → Bool} {held : Bool} {fuel : Nat} {t : TypeId} {cs : List Value} {x : DataW H × List MemPlace}
    (ht : P.underlying t = some (.int .i64)) (h : DataW.trod enc P w base spare held fuel t cs = some x) : ∃ n, cs = [.int .i64 n] := by
  cases fuel with
  | zero => simp [DataW.trod] at h
  | succ n =>
    unfold DataW.trod at h
    rw [ht] at h
    split at h <;> simp_all
section
variable {w0 w w' : World} {p q : Nat} {D D' : Dk} {L L' : Lg} {X : List (Nat × Obj)}
theorem arm_mild {xs : List Sp} {j : Nat} {room N : Int} (h : Mild D xs j room N) (a b c : Int) : Mild (D.arm a b c) xs j room N := by
  unfold Dk.arm
  split
  · exact ⟨h.l, h.j, h.r, h.n, h.can⟩
  · exact ⟨h.l, h.j, h.r, h.n, h.can⟩
end
end Go.Proofs.YtdmgobffhpgjlaaGreat.Sl.Dg
