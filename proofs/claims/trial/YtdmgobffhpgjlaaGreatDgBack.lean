/-
  A log that is written anew while the power may go: what is found then. No program text but in the last lines.
-/
import Derived.Test.YtdmgobffhpgjlaaGreatDgInts
namespace Go.Proofs.YtdmgobffhpgjlaaGreat.Sl.Dg
open Go.RowKit Go.PlainAid Go.Proofs.YtdmgobffhpgjlaaGreat.Cr
open Go.Proofs.YtdmgobffhpgjlaaGreat.Pk (Bs Fi Dk kl HasD has_new KeepAt on_post)
set_option linter.unusedVariables false
set_option maxRecDepth 20000
set_option linter.unusedSimpArgs false

section
variable {D : Dk} {xs ys : List Sp} {j : Nat} {room N : Int}
theorem size_new (h : Good D xs j room N) : D.size nN = -1 := by
  unfold Dk.size
  rw [h.l, get_n1]
end
section
variable {w0 w w' : World} {p q : Nat} {D D' : Dk} {L L' : Lg} {X : List (Nat × Obj)} {xs : List Sp} {j : Nat} {room N : Int}
theorem arm_any (h : HasL w0 w p q D L X) (g : Mild D xs j room N) (hN : N ≤ 1000000) (pos kind more : Int) (hm : more ≤ 9223372036854775807) :
    Calls Tryz.prog 11 #[.pointer (some ⟨p, 0, none⟩), .int .i64 pos, .int .i64 kind, .int .i64 more] w fun e w' => e = .returned (.tuple #[]) ∧ (∃ E, HasL w0 w' p q E L X ∧ Mild E xs j room N) ∧ Kp w w' := by
  have := g.n
  exact (arm_has h (by omega) pos kind more hm).mono fun e w' ⟨a, b, c⟩ => ⟨a, ⟨_, b, arm_mild g pos kind more⟩, c⟩
theorem HG.new (h : HG w0 w p q xs j room N X) : Calls Tryz.prog 66 #[.pointer (some ⟨p, 0, none⟩), .string nS] w fun e w' => e = .returned (.int .i64 (-1)) ∧ w = w' := by
  obtain ⟨D, h1, h2⟩ := h.is
  have C := Pk.has_size h1.d (s := nS) (by decide)
  rw [kl_nS, size_new h2] at C
  exact C
end
end Go.Proofs.YtdmgobffhpgjlaaGreat.Sl.Dg
