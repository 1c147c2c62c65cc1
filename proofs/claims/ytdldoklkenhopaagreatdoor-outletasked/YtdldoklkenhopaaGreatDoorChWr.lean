/-
  Contract of Write of package chunk.
-/
import Derived.Test.YtdldoklkenhopaaGreatDoorSet5
namespace Go.Proofs.YtdldoklkenhopaaGreatDoor.Ch
open Go.RowKit Go.PlainAid
open Hx Fi
set_option linter.unusedVariables false
set_option maxRecDepth 20000
set_option linter.unusedSimpArgs false

theorem wrt_len (b : Nat) : ∀ (k : Nat) (s : List UInt8), s.length ≤ k → (s.length : Int) ≤ 4611686018427387904 → (wrt b s).length ≤ 21 * s.length + 5
  | 0, s, hs, _ => by
    have : s = [] := List.eq_nil_of_length_eq_zero (by omega)
    subst this
    rw [wrt_nil]; simp
  | k + 1, s, hs, hz => by
    by_cases h : s = []
    · subst h; rw [wrt_nil]; simp
    · have h0 : 0 < s.length := List.length_pos_iff.2 h
      have ih := wrt_len b k (s.drop (b + 1)) (by rw [List.length_drop]; omega) (by rw [List.length_drop]; omega)
      have hd : (digL 14 (min (b + 1) s.length)).length ≤ 16 := digL_len 14 15 _ (by
        have : (14 + 2) ^ (15 + 1) = 18446744073709551616 := by decide
        omega)
      rw [wrt_more b h]
      simp only [List.length_append, List.length_take, List.length_drop, List.length_cons, List.length_nil] at ih ⊢
      omega
/-- where the walk of Write stands -/
structure WInv (w wr : World) (b : Nat) (s r : ByteArray) (out : List UInt8) : Prop where
  at_ : Wr wr w.heap.size (w.heap.size + 1) out
  bel : Below w.heap.size w wr
  eq : out ++ wrt b (ls r) = wrt b (ls s)
  le : r.size ≤ s.size
theorem WInv.room {w wr : World} {b : Nat} {s r : ByteArray} {out : List UInt8} (h : WInv w wr b s r out) (hs : s.size ≤ 1073741824) : out.length + (wrt b (ls r)).length ≤ 34359738368 := by
  have e := congrArg List.length h.eq
  rw [List.length_append] at e
  have := wrt_len b (ls s).length (ls s) (Nat.le_refl _) (by rw [ls_len]; omega)
  rw [ls_len] at this
  omega
end Go.Proofs.YtdldoklkenhopaaGreatDoor.Ch
