/-
  The walk of ChunkCuts.
-/
import Derived.Test.YtdldoklkenhopaaGreatDoorChAwake
namespace Go.Proofs.YtdldoklkenhopaaGreatDoor.Ch
open Go.RowKit Go.PlainAid
open Hx Fi
set_option linter.unusedVariables false
set_option maxRecDepth 20000
set_option linter.unusedSimpArgs false

theorem wrap_u64_nonneg (x : Int) : 0 ≤ IntKind.u64.wrap x := by rw [IntKind.wrap_u64]; omega
theorem cut_num (x : Int) (n : Nat) (h : n ≤ 1000000) : ∃ k : Nat, wrap64 ((IntKind.u64.wrap x).tmod ((n : Int) + 1)) = (k : Int) ∧ k ≤ n := by
  have h0 : 0 ≤ IntKind.u64.wrap x := wrap_u64_nonneg x
  rw [Int.tmod_eq_emod_of_nonneg h0]
  have h1 := Int.emod_nonneg (IntKind.u64.wrap x) (show ((n : Int) + 1) ≠ 0 by omega)
  have h2 := Int.emod_lt_of_pos (IntKind.u64.wrap x) (show 0 < (n : Int) + 1 by omega)
  refine ⟨(IntKind.u64.wrap x % ((n : Int) + 1)).toNat, ?_, by omega⟩
  generalize IntKind.u64.wrap x % ((n : Int) + 1) = q at h1 h2
  unfold wrap64; omega
theorem run_un (most : Nat) (l : List UInt8) : (run most init l).u.length = (run most init l).n := by
  obtain ⟨v, h1, h2⟩ := run_grows (most := most) l init
  rw [h1, h2]; simp [init]
theorem str_eq (t : ByteArray) : (t.toList == t.toList) = true := by rw [beq_iff_eq]
/-- how much was read in all -/
theorem run_small (most : Nat) : ∀ (l : List UInt8) (s : CS), (run most s l).u.length ≤ s.u.length + l.length ∧ (run most s l).md.rest.length ≤ s.md.rest.length + l.length
  | [], s => by rw [run_nil]; simp
  | b :: l, s => by
    obtain ⟨h1, h2⟩ := run_small most l (stepB most s b)
    rw [run_cons]
    have hs : (stepB most s b).u.length ≤ s.u.length + 1 ∧ (stepB most s b).md.rest.length ≤ s.md.rest.length + 1 := by
      obtain ⟨md, n, u⟩ := s
      cases md with
      | data k =>
        unfold stepB
        simp only [List.length_append, List.length_singleton]
        refine ⟨Nat.le_refl _, ?_⟩
        by_cases c : k ≤ 1
        · rw [if_pos c]; exact Nat.zero_le _
        · rw [if_neg c]; exact Nat.zero_le _
      | line acc =>
        unfold stepB
        simp only
        by_cases c : b = 10
        · rw [if_pos c]; exact ⟨by simp, by rw [show (CS.md ⟨endL most n acc, n, u⟩) = endL most n acc from rfl, md_rest_line]; simp⟩
        · rw [if_neg c]
          by_cases c2 : 255 ≤ acc.length
          · rw [if_pos c2]; exact ⟨by simp, by simp [Md.rest]⟩
          · rw [if_neg c2]; exact ⟨by simp, by simp [Md.rest]⟩
      | trail acc k =>
        unfold stepB
        simp only
        by_cases c : b = 10
        · rw [if_pos c]; exact ⟨by simp, by rw [show (CS.md ⟨endT k acc, n, u⟩) = endT k acc from rfl, md_rest_trail]; simp⟩
        · rw [if_neg c]
          by_cases c2 : 255 ≤ acc.length
          · rw [if_pos c2]; exact ⟨by simp, by simp [Md.rest]⟩
          · rw [if_neg c2]; exact ⟨by simp, by simp [Md.rest]⟩
      | cr =>
        unfold stepB
        simp only
        by_cases c : b = 13
        · rw [if_pos c]; exact ⟨by simp, by simp [Md.rest]⟩
        · rw [if_neg c]; exact ⟨by simp, by simp [Md.rest]⟩
      | lf =>
        unfold stepB
        simp only
        by_cases c : b = 10
        · rw [if_pos c]; exact ⟨by simp, by simp [Md.rest]⟩
        · rw [if_neg c]; exact ⟨by simp, by simp [Md.rest]⟩
      | done r => exact ⟨by simp [stepB], by simp [stepB, Md.rest]⟩
      | err e => exact ⟨by simp [stepB], by simp [stepB, Md.rest]⟩
    simp only [List.length_cons]
    omega
theorem int_bd {n : Int} (h : (Lit.int .i64 n).wf = true) : -9223372036854775808 ≤ n ∧ n ≤ 9223372036854775807 := by
  simp [Lit.wf] at h
  have e1 : IntKind.i64.min = -9223372036854775808 := by decide
  have e2 : IntKind.i64.max = 9223372036854775807 := by decide
  omega
end Go.Proofs.YtdldoklkenhopaaGreatDoor.Ch
