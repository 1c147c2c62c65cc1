/-
  A row of slips of a law's own grows beside its log; faults that are armed.
-/
import Derived.Test.YtdmgobffhpgjlaaGreatDgGreat
namespace Go.Proofs.YtdmgobffhpgjlaaGreat.Sl.Dg
open Go.RowKit Go.PlainAid Go.Proofs.YtdmgobffhpgjlaaGreat.Cr
open Go.Proofs.YtdmgobffhpgjlaaGreat.Pk (Bs Fi Dk kl HasD zone)
set_option linter.unusedVariables false
set_option maxRecDepth 20000
set_option linter.unusedSimpArgs false

section
variable {w0 w w' : World} {p q : Nat} {D D' : Dk} {L L' : Lg} {X : List (Nat × Obj)} {xs : List Sp} {j : Nat} {room N : Int}
theorem HasL.grown (h : HasL w0 w p q D L []) {row : Option Nat} (hg : w.grownBy w' row) (hr : ∀ k, row = some k → w0.heap.size ≤ k ∧ ∃ c fr, w.heap[k]? = some (.cells c 39 fr)) : HasL w0 w' p q D L [] := by
  obtain ⟨m, G, hd, z, hX⟩ := h.d.is
  have hq := hX _ (List.mem_cons_self ..)
  have nq : some q ≠ row := fun e => by
    obtain ⟨c, fr, hc⟩ := (hr q e.symm).2
    have := h.at.heap
    rw [hc] at this
    injection this with this
    injection this with _ this
    exact absurd this (by decide)
  have nz : ∀ b, zone p m G D.L b → some b ≠ row := fun b hb e => by
    obtain ⟨c, fr, hc⟩ := (hr b e.symm).2
    exact zone_type hd hc (by decide) (by decide) (by decide) hb
  refine ⟨⟨⟨m, G, hd.kept fun b hb => hg.block b (hd.lt hb) (nz b hb), z, fun x hx => ?_⟩, h.d.below.trans ⟨hg.os, hg.tape, hg.output, hg.size, fun b hb => hg.block b (Nat.lt_of_lt_of_le hb h.below.size) fun e => ?_⟩⟩, h.hq, by simp⟩
  · simp at hx
    subst hx
    exact ⟨by rw [hg.block q h.lt nq]; exact hq.1, hq.2⟩
  · have := (hr b e.symm).1
    omega
theorem HG.grown (h : HG w0 w p q xs j room N []) {row : Option Nat} (hg : w.grownBy w' row) (hr : ∀ k, row = some k → w0.heap.size ≤ k ∧ ∃ c fr, w.heap[k]? = some (.cells c 39 fr)) : HG w0 w' p q xs j room N [] := by
  obtain ⟨D, h1, h2⟩ := h.is
  exact ⟨D, h1.grown hg hr, h2⟩
/-- a slip of the law's own, below its rows -/
theorem At.grown {B T : Nat} {cs : Array Value} (h : At w B T cs) {row : Option Nat} (hg : w.grownBy w' row) (hr : ∀ k, row = some k → B < k) : At w' B T cs := by
  refine h.same (hg.block B h.lt fun e => ?_)
  have := hr B e.symm
  omega
/-- another log of the same disk was opened -/
theorem HG.other {q2 : Nat} (h : HG w0 w p q2 xs j room N [(q, dob p L)]) (hq : w0.heap.size ≤ q) : ∃ D, HasL w0 w p q D L [] ∧ Good D xs j room N := by
  obtain ⟨D, h1, h2⟩ := h.is
  exact ⟨D, ⟨h1.d.less fun x hx => List.mem_cons_of_mem _ hx, hq, by simp⟩, h2⟩
end

/-! ### faults -/
section
variable {D : Dk} {xs : List Sp} {j : Nat} {room N : Int}
end
end Go.Proofs.YtdmgobffhpgjlaaGreat.Sl.Dg
