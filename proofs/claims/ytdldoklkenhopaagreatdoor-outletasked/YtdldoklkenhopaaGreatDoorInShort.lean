/-
  Bounds of heads, plainly: their fields are short, the errors are few, bodies are at most so long.
-/
import Derived.Test.YtdldoklkenhopaaGreatDoorInAsk
import Derived.Test.YtdldoklkenhopaaGreatDoorSet2
import Derived.Test.YtdldoklkenhopaaGreatDoorSet6
namespace Go.Proofs.YtdldoklkenhopaaGreatDoor.In
open Go.RowKit Go.PlainAid
open Hx Fi Ch
set_option linter.unusedVariables false
set_option maxRecDepth 20000
set_option linter.unusedSimpArgs false

def Sm (x : Fi.Fd) : Prop := x.n.size ≤ 4096 ∧ x.v.size ≤ 4096
theorem lineF_x {full : Bool} {l : List UInt8} {e : Int} (h : lineF full l = .error e) : e = 3 ∨ e = 4 ∨ e = 17 := by
  unfold lineF at h
  split at h
  · injection h with h; split at h <;> omega
  · split at h
    · cases h
    · injection h with h; omega
theorem fld_small (full : Bool) : ∀ (k : Nat) (l : List UInt8), l.length ≤ k → k ≤ 4096 → ∀ (at_ : Nat) (acc : List Fi.Fd), (∀ x ∈ acc, Sm x) → (∀ x ∈ (fldF full l at_ acc).list, Sm x) ∧ ((fldF full l at_ acc).err = 0 ∨ (fldF full l at_ acc).err = 3 ∨ (fldF full l at_ acc).err = 4 ∨ (fldF full l at_ acc).err = 17) := by
  intro k
  induction k with
  | zero =>
    intro l hl _ at_ acc ha
    have : l = [] := List.eq_nil_of_length_eq_zero (by omega)
    subst this
    rw [fldF_err at_ acc lineF_nil]
    refine ⟨by simp, ?_⟩
    cases full <;> simp
  | succ k ih =>
    intro l hl hk at_ acc ha
    cases hq : lineF full l with
    | error e =>
      rw [fldF_err at_ acc hq]
      exact ⟨by simp, .inr (lineF_x hq)⟩
    | ok p =>
      obtain ⟨x, r⟩ := p
      have hlen := lineF_len hq
      by_cases hx : x = []
      · subst hx
        rw [fldF_end at_ acc hq]
        exact ⟨ha, .inl rfl⟩
      · cases hp : parseF x with
        | none => rw [fldF_form at_ acc hq hx hp]; exact ⟨by simp, .inr (.inl rfl)⟩
        | some f =>
          by_cases hl32 : acc.length = 32
          · rw [fldF_long at_ acc hq hx hp hl32]; exact ⟨by simp, .inr (.inr (.inl rfl))⟩
          · rw [fldF_step at_ acc hq hx hp hl32]
            refine ih r (by omega) (by omega) (at_ + x.length + 2) (acc ++ [f]) fun y hy => ?_
            rcases List.mem_append.1 hy with h | h
            · exact ha y h
            · rw [List.mem_singleton] at h
              subst h
              have := parseF_le hp
              exact ⟨by omega, by omega⟩
theorem spl_small (l : List UInt8) : (∀ x ∈ (spl l).list, Sm x) ∧ ((spl l).err = 0 ∨ (spl l).err = 3 ∨ (spl l).err = 4 ∨ (spl l).err = 17) := by
  unfold spl
  have ht : (l.take 4096).length ≤ 4096 := by rw [List.length_take]; omega
  cases hq : lineF (decide (4096 ≤ l.length)) (l.take 4096) with
  | error e => exact ⟨by simp, .inr (lineF_x hq)⟩
  | ok p =>
    obtain ⟨x, r⟩ := p
    have hlen := lineF_len hq
    simp only
    split
    · exact ⟨by simp, .inr (.inl rfl)⟩
    · split
      · exact ⟨by simp, .inr (.inr (.inl rfl))⟩
      · exact fld_small _ r.length r (Nat.le_refl _) (by omega) _ [] (by simp)
theorem spl_short2 (l : List UInt8) : Short (spl l).list :=
  ⟨by have := spl_32 l; omega, fun x hx => by have := ((spl_small l).1 x hx).1; omega, fun x hx => by have := ((spl_small l).1 x hx).2; omega⟩
theorem spl_start (l : List UInt8) : (spl l).start.length ≤ 4096 := by
  unfold spl
  cases hq : lineF (decide (4096 ≤ l.length)) (l.take 4096) with
  | error e => simp
  | ok p =>
    obtain ⟨x, r⟩ := p
    have hlen := lineF_len hq
    rw [List.length_take] at hlen
    simp only
    split
    · simp
    · split
      · simp
      · simp only
        split
        · omega
        · simp
theorem fr_e (xs : List Fi.Fd) : (frF xs 4096).e = 0 ∨ (frF xs 4096).e = 3 ∨ (frF xs 4096).e = 4 := by
  unfold frF
  split
  · exact .inl rfl
  · split
    · exact .inr (.inl rfl)
    · split
      · unfold lenE
        rcases und_cases (getS (ls nCL) xs) 4096 with ⟨h, _⟩ | ⟨h, _⟩
        · rw [h]; exact .inl rfl
        · rcases h with h | h <;> rw [h] <;> simp
      · split
        · exact .inl rfl
        · exact .inr (.inl rfl)
theorem fr_n (xs : List Fi.Fd) : -1 ≤ (frF xs 4096).n ∧ (frF xs 4096).n ≤ 4096 := by
  unfold frF
  split
  · exact ⟨by simp, by simp⟩
  · split
    · exact ⟨by simp, by simp⟩
    · split
      · simp only
        unfold lenN
        rcases und_cases (getS (ls nCL) xs) 4096 with ⟨h, h1, h2⟩ | ⟨h, h1⟩
        · split <;> omega
        · split <;> omega
      · split <;> exact ⟨by simp, by simp⟩
/-- what a head that is whole comes to -/
theorem headQ_ok {h : Hd} {q : Rq} {f : Fr} (e : headQ h = .ok (q, f)) : f = frF h.list 4096 ∧ f.e = 0 ∧ q.fs = h.list ∧ ∃ m t k, lnQ h.start = .ok (m, t, k) ∧ q = ⟨m, t, h.list, closesF h.list k⟩ ∧ ¬ (1 < getN (ls nHost) h.list ∨ (getN (ls nHost) h.list = 0 ∧ k = 1)) := by
  unfold headQ at e
  cases hq : lnQ h.start with
  | error s => rw [hq] at e; cases e
  | ok p =>
    obtain ⟨m, t, k⟩ := p
    rw [hq] at e
    simp only at e
    split at e
    · cases e
    · rename_i h1
      split at e
      · cases e
      · split at e
        · cases e
        · rename_i h2 h3
          injection e with e
          injection e with e1 e2
          subst e1 e2
          exact ⟨rfl, by omega, rfl, m, t, k, rfl, rfl, h1⟩
theorem lnQ_k {l : List UInt8} {m t : List UInt8} {k : Nat} (h : lnQ l = .ok (m, t, k)) : k ≤ 1 ∧ m.length + t.length ≤ l.length := by
  unfold lnQ at h
  split at h
  · cases h
  · rename_i m' r hc
    have hc := congrArg List.length (cutB_some hc).1
    rw [List.length_append, List.length_cons] at hc
    split at h
    · split at h
      · cases h
      · rename_i t' v hc2
        have hc2 := congrArg List.length (cutB_some hc2).1
        rw [List.length_append, List.length_cons] at hc2
        split at h
        · split at h
          · cases h
          · rename_i a b _
            split at h
            · rename_i hab
              injection h with h
              injection h with e1 h
              injection h with e2 e3
              subst e1 e2 e3
              have := UInt8.le_iff_toNat_le.1 hab.2
              have e49 : (49 : UInt8).toNat = 49 := rfl
              omega
            · cases h
        · cases h
    · cases h
end Go.Proofs.YtdldoklkenhopaaGreatDoor.In
