/-
  Contracts of has, Closes, lengthOf and Frame of package field.
-/
import Derived.Test.YtdldoklkenhopaaDoorFiEls
namespace Go.Proofs.YtdldoklkenhopaaDoor.Fi
open Go.RowKit Go.PlainAid
open Hx
set_option linter.unusedVariables false
set_option maxRecDepth 20000
set_option linter.unusedSimpArgs false

def HasTo (word : List UInt8) (ss : List ByteArray) (k : Nat) : Prop := hasF word (ss.take k) = false
theorem HasTo.succ {word : List UInt8} {ss : List ByteArray} {k : Nat} {s : ByteArray} (h : HasTo word ss k) (hs : ss[k]? = some s) (hn : sameL (ls s) word = false) : HasTo word ss (k + 1) := by
  unfold HasTo hasF at h ⊢
  rw [List.take_add_one, hs, List.any_append, h]
  simp [hn]
theorem has_yes {word : List UInt8} {ss : List ByteArray} {k : Nat} {s : ByteArray} (hs : ss[k]? = some s) (hn : sameL (ls s) word = true) : hasF word ss = true := by
  unfold hasF
  rw [List.any_eq_true]
  exact ⟨s, List.mem_of_getElem? hs, hn⟩
theorem elemsF_bound {name : List UInt8} {xs : List Fd} (hs : Short xs) : (elemsF name xs).length ≤ 1000 * 100001 ∧ ∀ s ∈ elemsF name xs, s.size ≤ 100000 := by
  unfold elemsF
  have hl := Nat.le_trans (valsF_le name xs) hs.len
  have hv : ∀ s ∈ valsF name xs, s.size ≤ 100000 := fun s h => by
    obtain ⟨x, hx, rfl⟩ := valsF_mem h
    exact hs.v x hx
  generalize valsF name xs = vs at hl hv
  constructor
  · have : ∀ l : List ByteArray, (∀ s ∈ l, s.size ≤ 100000) → ((l.map elsF).flatten).length ≤ l.length * 100001 := by
      intro l
      induction l with
      | nil => intro _; simp
      | cons s l ih =>
        intro h
        have h1 := (elsF_bound s).1
        have h2 := h s (by simp)
        have h3 := ih (fun x hx => h x (by simp [hx]))
        simp only [List.map_cons, List.flatten_cons, List.length_append, List.length_cons]
        omega
    exact Nat.le_trans (this vs hv) (Nat.mul_le_mul_right _ hl)
  · intro s h
    obtain ⟨l, hl, hs⟩ := List.mem_flatten.1 h
    obtain ⟨t, ht, rfl⟩ := List.mem_map.1 hl
    have h1 := (elsF_bound t).2 s hs
    have h2 := hv t ht
    omega
/-! ### Frame -/
end Go.Proofs.YtdldoklkenhopaaDoor.Fi
