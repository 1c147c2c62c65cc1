/-
  Of a request that bytes begin with: its fields are those that Split finds, so they are few and short. No program is spoken of.
-/
import Derived.Test.YtbngfphiachnoaaGreatDoorSet7
namespace Go.Proofs.YtbngfphiachnoaaGreatDoor.In
open Go.RowKit Go.PlainAid
open Hx Fi Ch
set_option linter.unusedVariables false
set_option maxRecDepth 20000
set_option linter.unusedSimpArgs false

theorem headQ_fs {h : Hd} {q : Rq} {f : Fr} (e : headQ h = .ok (q, f)) : q.fs = h.list := by
  unfold headQ at e
  cases hq : lnQ h.start with
  | error s => rw [hq] at e; cases e
  | ok p =>
    obtain ⟨m, t, k⟩ := p
    rw [hq] at e
    simp only at e
    split at e
    · cases e
    · split at e
      · cases e
      · split at e
        · cases e
        · injection e with e
          injection e with e1 e2
          rw [← e1]
theorem rd_fs {l : List UInt8} {q : Rq} {n : Nat} (h : rdF l = .ok q n) : q.fs = (spl l).list := by
  unfold rdF at h
  split at h
  · cases h
  · split at h
    · cases h
    · split at h
      · cases h
      · cases hq : headQ (spl l) with
        | error st => rw [hq] at h; cases h
        | ok p =>
          obtain ⟨q', f⟩ := p
          rw [hq] at h
          simp only at h
          have e := headQ_fs hq
          split at h
          · unfold bodyC at h
            split at h
            · injection h with h1 h2
              rw [← h1]; exact e
            · split at h
              · cases h
              · split at h <;> cases h
          · split at h
            · cases h
            · injection h with h1 h2
              rw [← h1]; exact e
theorem rd_short2 {l : List UInt8} {q : Rq} {n : Nat} (h : rdF l = .ok q n) : Short q.fs := by
  rw [rd_fs h]; exact spl_short2 l
end Go.Proofs.YtbngfphiachnoaaGreatDoor.In
