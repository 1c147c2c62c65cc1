/-
  A row of bytes cut behind and ahead.
-/
import Derived.Test.YtdmgobffhpgjlaaGreatPkOps2
namespace Go.Proofs.YtdmgobffhpgjlaaGreat.Pk
open Go.RowKit Go.PlainAid Go.Maps
set_option linter.unusedVariables false
set_option maxRecDepth 20000
set_option linter.unusedSimpArgs false

theorem size_u8 (w : World) : (sizeOf 5).run Tryz.prog w = .ok 1 w := size_of (by kernel_rfl) w
theorem cut_nil_to (w : World) : (Instr.sliceAt 87 (.slice none 0 0) none (some (.int .i64 0)) none).run Tryz.prog w = .ok (.slice none 0 0) w := by
  have hz := size_u8 w
  simp [Instr.sliceAt, Instr.slice, run_underlying Tryz.underlying87, Instr.sliceBounds, run_sliceBound, hz]
theorem cut_nil_from (w : World) : (Instr.sliceAt 87 (.slice none 0 0) (some (.int .i64 0)) none none).run Tryz.prog w = .ok (.slice none 0 0) w := by
  have hz := size_u8 w
  simp [Instr.sliceAt, Instr.slice, run_underlying Tryz.underlying87, Instr.sliceBounds, run_sliceBound, hz]
/-- bytes[:k] -/
theorem cut_to (w : World) (g a n cap k : Nat) (hk : k ≤ cap) :
    (Instr.sliceAt 87 (.slice (some ⟨g, a, none⟩) n cap) none (some (.int .i64 (k : Int))) none).run Tryz.prog w = .ok (.slice (some ⟨g, a, none⟩) k cap) w := by
  have h0 : (0 : Int) ≤ (k : Int) := by omega
  have h1 : (k : Int) ≤ (cap : Int) := by omega
  have hz := size_u8 w
  by_cases h2 : cap = 0
  · subst h2
    obtain rfl : k = 0 := by omega
    simp [Instr.sliceAt, Instr.slice, run_underlying Tryz.underlying87, Instr.sliceBounds, run_sliceBound, hz]
  · simp [Instr.sliceAt, Instr.slice, run_underlying Tryz.underlying87, Instr.sliceBounds, run_sliceBound, hz, h0, h1, h2, add_addr]
/-- bytes[k:] -/
theorem cut_from (w : World) (g n cap k : Nat) (hk : k ≤ n) :
    (Instr.sliceAt 87 (.slice (some ⟨g, 0, none⟩) n cap) (some (.int .i64 (k : Int))) none none).run Tryz.prog w = .ok (.slice (some ⟨g, if cap = k then 0 else k, none⟩) (n - k) (cap - k)) w := by
  have h0 : (0 : Int) ≤ (k : Int) := by omega
  have h1 : (k : Int) ≤ (n : Int) := by omega
  have hz := size_u8 w
  by_cases h2 : cap = k
  · simp [Instr.sliceAt, Instr.slice, run_underlying Tryz.underlying87, Instr.sliceBounds, run_sliceBound, hz, h0, h1, h2]
  · simp [Instr.sliceAt, Instr.slice, run_underlying Tryz.underlying87, Instr.sliceBounds, run_sliceBound, hz, h0, h1, h2, add_addr]
theorem empty_text (w : World) (g a cap : Nat) : (convert 87 9 (.slice (some ⟨g, a, none⟩) 0 cap)).run Tryz.prog w = .ok (.string ⟨#[]⟩) w := by
  have := run_convert_bytes_back w 87 9 5 ⟨g, a, none⟩ cap [] Tryz.underlying87 Tryz.underlying5 Tryz.underlying9 (P := Tryz.prog) fun j hj => by simp at hj
  exact this
theorem cut_text {w : World} {v : Value} {bs : Bs} (h : RowB w v bs) {a k : Nat} (ha : a ≤ bs.length) (hk : k ≤ bs.length - a) : ∃ o1 c1 o2, (Instr.sliceAt 87 v (some (.int .i64 (a : Int))) none none).run Tryz.prog w = .ok (.slice o1 (bs.length - a) c1) w ∧
    (Instr.sliceAt 87 (.slice o1 (bs.length - a) c1) none (some (.int .i64 (k : Int))) none).run Tryz.prog w = .ok (.slice o2 k c1) w ∧ (convert 87 9 (.slice o2 k c1)).run Tryz.prog w = .ok (.string ⟨((bs.drop a).take k).toArray⟩) w := by
  rcases h with ⟨rfl, rfl⟩ | ⟨g, cap, cur, fr, rfl, hg, hf, hl, hm, hc, ht⟩
  · simp at ha
    subst ha
    simp at hk
    subst hk
    exact ⟨none, 0, none, cut_nil_from w, cut_nil_to w, RowB.text (.inl ⟨rfl, rfl⟩)⟩
  · have R : RowB w (.slice (some ⟨g, 0, none⟩) bs.length cap) bs := .inr ⟨g, cap, cur, fr, rfl, hg, hf, hl, hm, hc, ht⟩
    refine ⟨_, _, _, cut_from w g bs.length cap a ha, cut_to w g _ _ _ k (by omega), ?_⟩
    by_cases h2 : cap = a
    · have : k = 0 := by omega
      subst this
      rw [empty_text]
      simp
    · rw [if_neg h2]
      exact part_text (cap := cap) (fun j c hj => (R.cells.2 j c hj).1) (by omega) _
end Go.Proofs.YtdmgobffhpgjlaaGreat.Pk
