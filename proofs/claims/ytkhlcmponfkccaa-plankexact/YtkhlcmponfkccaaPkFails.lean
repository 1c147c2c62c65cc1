/-
  Math of the law that a fault changes nothing.
-/
import Derived.Test.YtkhlcmponfkccaaPkActs
namespace Go.Proofs.Ytkhlcmponfkccaa.Pk
open Go.RowKit Go.PlainAid Go.Maps
set_option linter.unusedVariables false
set_option linter.unusedSimpArgs false

theorem beg_calm {D : Dk} (hk : D.kd = 0) (ho : D.off = false) (g : Bool) : ((D.beg g).1 = 0 ∨ (D.beg g).1 = 1) ∧ (D.beg g).2.kd = 0 ∧ (D.beg g).2.off = false := by
  unfold Dk.beg
  cases g
  · exact ⟨.inr rfl, hk, ho⟩
  · rw [if_neg (by simp), if_neg (by simp [ho])]
    unfold Dk.fail
    rw [if_pos (.inl hk)]
    exact ⟨.inl rfl, hk, ho⟩
/-- an operation of a disk without a fault -/
theorem done_calm {D : Dk} (hk : D.kd = 0) (ho : D.off = false) (x : Ac) : (D.doneA x).1 ≠ 11 ∧ (D.doneA x).1 ≠ 12 ∧ (D.doneA x).2.kd = 0 ∧ (D.doneA x).2.off = false ∧ (D.doneA x).2.ops ≤ D.ops + 1 ∧ (D.doneA x).2.room = D.room := by
  have B := fun g => beg_calm hk ho g
  have C := fun g => beg_L D g
  unfold Dk.doneA
  split
  · unfold Dk.append
    obtain ⟨b1, b2, b3⟩ := B (isName (kl x.name))
    obtain ⟨_, c1, c2, _⟩ := C (isName (kl x.name))
    simp only
    split
    · exact ⟨by omega, by omega, b2, b3, c2, c1⟩
    · split
      · exact ⟨by simp, by simp, b2, b3, c2, c1⟩
      · split <;> exact ⟨by simp, by simp, b2, b3, c2, c1⟩
  split
  · unfold Dk.read
    obtain ⟨b1, b2, b3⟩ := B (isName (kl x.name) && decide (0 ≤ x.pos) && decide (0 ≤ x.n))
    obtain ⟨_, c1, c2, _⟩ := C (isName (kl x.name) && decide (0 ≤ x.pos) && decide (0 ≤ x.n))
    simp only
    split
    · exact ⟨by simp only; omega, by simp only; omega, b2, b3, c2, c1⟩
    · split
      · exact ⟨by simp, by simp, b2, b3, c2, c1⟩
      · split <;> exact ⟨by simp, by simp, b2, b3, c2, c1⟩
  split
  · unfold Dk.sync
    obtain ⟨b1, b2, b3⟩ := B (isName (kl x.name))
    obtain ⟨_, c1, c2, _⟩ := C (isName (kl x.name))
    simp only
    split
    · exact ⟨by omega, by omega, b2, b3, c2, c1⟩
    · split <;> exact ⟨by simp, by simp, b2, b3, c2, c1⟩
  split
  · unfold Dk.rename
    obtain ⟨b1, b2, b3⟩ := B (isName (kl x.name) && isName (kl x.to))
    obtain ⟨_, c1, c2, _⟩ := C (isName (kl x.name) && isName (kl x.to))
    simp only
    split
    · exact ⟨by omega, by omega, b2, b3, c2, c1⟩
    · split <;> exact ⟨by simp, by simp, b2, b3, c2, c1⟩
  split
  · unfold Dk.delete
    obtain ⟨b1, b2, b3⟩ := B (isName (kl x.name))
    obtain ⟨_, c1, c2, _⟩ := C (isName (kl x.name))
    simp only
    split
    · exact ⟨by omega, by omega, b2, b3, c2, c1⟩
    · split <;> exact ⟨by simp, by simp, b2, b3, c2, c1⟩
  · unfold Dk.create
    obtain ⟨b1, b2, b3⟩ := B (isName (kl x.name))
    obtain ⟨_, c1, c2, _⟩ := C (isName (kl x.name))
    simp only
    split
    · exact ⟨by omega, by omega, b2, b3, c2, c1⟩
    · split
      · exact ⟨by simp, by simp, b2, b3, c2, c1⟩
      · split <;> exact ⟨by simp, by simp, b2, b3, c2, c1⟩
/-- an operation that has a fault is refused or struck -/
theorem done_r {D : Dk} {x : Ac} (h : ∀ g, (D.beg g).1 ≠ 0) : ∃ g, D.doneA x = D.beg g := by
  unfold Dk.doneA
  split
  · exact ⟨_, append_r (h _)⟩
  split
  · by_cases hb : (isName (kl x.name) && decide (0 ≤ x.pos) && decide (0 ≤ x.n)) = true
    · exact ⟨true, by rw [read_r hb (h _)]⟩
    · exact ⟨false, by rw [read_b (by simpa using hb)]; rfl⟩
  split
  · exact ⟨_, sync_r (h _)⟩
  split
  · exact ⟨_, rename_r (h _)⟩
  split
  · exact ⟨_, delete_r (h _)⟩
  · exact ⟨_, create_r (h _)⟩
theorem done_fault {D : Dk} (ho : D.off = false) {kk : Int} (hk : kk = 1 ∨ kk = 2) (x : Ac) :
    ((D.arm 1 kk 0).doneA x).1 = 1 ∧ ((D.arm 1 kk 0).doneA x).2 = D.arm 1 kk 0 ∨ (((D.arm 1 kk 0).doneA x).1 = 11 ∨ ((D.arm 1 kk 0).doneA x).1 = 12) ∧ ((D.arm 1 kk 0).doneA x).2.L = D.L ∧ ((D.arm 1 kk 0).doneA x).2.ops = D.ops + 1 := by
  have ea : D.arm 1 kk 0 = { D with kd := kk, fa := D.ops + 1, fm := 0 } := by
    unfold Dk.arm
    rw [if_neg (by omega)]
    rfl
  have eb : ∀ g, (D.arm 1 kk 0).beg g = if g = false then (1, D.arm 1 kk 0) else if kk = 1 then (11, { D with ops := D.ops + 1, kd := kk, fa := D.ops + 1, fm := 0 }) else (12, { D with ops := D.ops + 1, off := true, kd := 0, fa := 0, fm := 0 }) := by
    intro g
    rw [ea]
    unfold Dk.beg
    cases g
    · rfl
    · rw [if_neg (by simp), if_neg (by simp [ho]), if_neg (by simp)]
      unfold Dk.fail
      rw [if_neg (by simp; omega)]
      rfl
  obtain ⟨g, hg⟩ := done_r (D := D.arm 1 kk 0) (x := x) (fun g => by
    rw [eb g]
    cases g
    · simp
    · simp only [Bool.true_eq_false, if_false]
      split <;> simp)
  rw [hg, eb g]
  cases g
  · exact .inl ⟨rfl, rfl⟩
  · simp only [Bool.true_eq_false, if_false]
    rcases hk with rfl | rfl
    · exact .inr ⟨.inl rfl, rfl, rfl⟩
    · exact .inr ⟨.inr rfl, rfl, rfl⟩
theorem arm_no (D : Dk) : D.arm 0 0 0 = { D with kd := 0, fa := 0, fm := 0 } := by
  unfold Dk.arm
  rw [if_pos (.inl (by decide))]
/-- behind a fault: nothing is armed, the power goes and comes -/
theorem calm_again (D : Dk) (ks : List Int) : ((D.arm 0 0 0).offd.on ks).kd = 0 ∧ ((D.arm 0 0 0).offd.on ks).off = false ∧ ((D.arm 0 0 0).offd.on ks).ops = D.ops := by
  unfold Dk.on
  rw [if_pos (show (D.arm 0 0 0).offd.off = true from rfl)]
  refine ⟨rfl, rfl, ?_⟩
  rw [arm_no]
  rfl
end Go.Proofs.Ytkhlcmponfkccaa.Pk
