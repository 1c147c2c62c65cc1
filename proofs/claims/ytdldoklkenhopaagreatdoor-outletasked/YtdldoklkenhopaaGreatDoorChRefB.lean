/-
  Contracts of ended, last and Read of the document's answers: what all bytes that have come are.
-/
import Derived.Test.YtdldoklkenhopaaGreatDoorChRefL
namespace Go.Proofs.YtdldoklkenhopaaGreatDoor.Ch
open Go.RowKit Go.PlainAid
open Hx Fi
set_option linter.unusedVariables false
set_option maxRecDepth 20000
set_option linter.unusedSimpArgs false

theorem results_one {P : Program} {fn : Func} {p : Tmp} {ty : TypeId} (h : fn.results = #[.cell p ty]) (tmps : Array Value) {w : World} {g : Nat} {cs : Array Value}
    (hp : tmps.getD p undef = .pointer (some ⟨g, 0, none⟩)) (hl : Loads P w ty ⟨g, 0, none⟩ cs) : (results fn tmps).run P w = .ok (.agg cs) w := by
  have hp' : tmps[p]?.getD undef = .pointer (some ⟨g, 0, none⟩) := by simpa using hp
  have hl' : (loadVar ty ⟨g, 0, none⟩).run P w = .ok (.agg cs) w := hl
  simp [results, h, hp', asAddr, hl']
def bdV (d : ByteArray) (dn : Bool) (sz er : Int) : Array Value := #[.string d, .bool dn, .int .i64 sz, .int .i64 er]
theorem bdV_size (d : ByteArray) (dn : Bool) (sz er : Int) : (bdV d dn sz er).size = 4 := rfl
theorem bdV_one (d : ByteArray) (dn : Bool) (sz er : Int) : ∀ v ∈ (bdV d dn sz er).toList, v.oneCell' = true := by
  intro v hv
  simp [bdV] at hv
  rcases hv with rfl | rfl | rfl | rfl <;> rfl
/-- a body that ends there: an error, unless more bytes are needed -/
def enE (er e : Int) : Int := if e = 17 then er else e
/-! ### behind the last chunk -/
theorem lnF_err {l : List UInt8} {e0 : Int} (h : lnF l = .err e0) : (e0 = 3 ∨ e0 = 17) ∧ ((lineC l = none ∧ ((256 ≤ l.length ∧ e0 = 3) ∨ (l.length < 256 ∧ e0 = 17))) ∨ ∃ t, lineC l = some t ∧ t.getLast? ≠ some 13 ∧ e0 = 3) := by
  unfold lnF at h
  cases hq : lineC l with
  | none =>
    rw [hq] at h
    simp only at h
    by_cases c : 256 ≤ l.length
    · rw [if_pos c] at h
      injection h with h
      subst h
      exact ⟨.inl rfl, .inl ⟨rfl, .inl ⟨c, rfl⟩⟩⟩
    · rw [if_neg c] at h
      injection h with h
      subst h
      exact ⟨.inr rfl, .inl ⟨rfl, .inr ⟨by omega, rfl⟩⟩⟩
  | some t =>
    rw [hq] at h
    simp only at h
    by_cases c : t.getLast? = some 13
    · rw [if_pos c] at h; cases h
    · rw [if_neg c] at h
      injection h with h
      subst h
      exact ⟨.inl rfl, .inr ⟨t, rfl, c, rfl⟩⟩
theorem lnF_ok {l x : List UInt8} {n : Nat} (h : lnF l = .ok x n) : lineC l = some (x ++ [13]) ∧ n = x.length + 2 ∧ n ≤ l.length ∧ x.length ≤ 254 := by
  unfold lnF at h
  cases hq : lineC l with
  | none =>
    rw [hq] at h
    simp only at h
    split at h <;> cases h
  | some t =>
    rw [hq] at h
    simp only at h
    by_cases c : t.getLast? = some 13
    · rw [if_pos c] at h
      injection h with h1 h2
      obtain ⟨y, hy⟩ := List.getLast?_eq_some_iff.1 c
      subst hy
      rw [List.dropLast_concat] at h1
      subst h1
      obtain ⟨_, _, h3, h4⟩ := lineC_some hq
      rw [List.length_append, List.length_singleton] at h2 h3 h4
      exact ⟨rfl, by omega, by omega, by omega⟩
    · rw [if_neg c] at h; cases h
/-- what the document answers of the machine's state behind all bytes -/
def bodyOf (d : ByteArray) (R : CS) (s : ByteArray) : Array Value := bdV d R.md.isDone (if R.md.isDone = true then ((s.size - R.md.rest.length : Nat) : Int) else 0) R.md.error
theorem trail_err {most n k : Nat} {u l : List UInt8} {e0 : Int} (h : lnF l = .err e0) : (run most ⟨.trail [] k, n, u⟩ l).md.isDone = false ∧ (run most ⟨.trail [] k, n, u⟩ l).md.error = enE 0 e0 := by
  obtain ⟨_, h⟩ := lnF_err h
  rcases h with ⟨hq, ⟨c, rfl⟩ | ⟨c, rfl⟩⟩ | ⟨t, hq, c, rfl⟩
  · rw [read_trail_bad hq c]; exact ⟨rfl, rfl⟩
  · rw [read_trail_wait hq c]; exact ⟨rfl, rfl⟩
  · rw [read_trail hq, endT_bad c, run_err]; exact ⟨rfl, rfl⟩
theorem trail_ok {most n k m : Nat} {u l x : List UInt8} (h : lnF l = .ok x m) : run most ⟨.trail [] k, n, u⟩ l = run most ⟨endT k (x ++ [13]), n, u⟩ (l.drop m) := by
  obtain ⟨hq, hm, _⟩ := lnF_ok h
  rw [read_trail hq, hm, List.length_append, List.length_singleton]
theorem endT_end (k : Nat) : endT k ([] ++ [13]) = .done [] := by
  unfold endT
  rw [if_pos (by decide), if_pos (by decide)]
theorem endT_more {k : Nat} {x : List UInt8} (hx : x ≠ []) : endT k (x ++ [13]) = if (parseF x).isSome = true then (if 16 ≤ k then .err 4 else .trail [] (k + 1)) else .err 3 := by
  unfold endT
  rw [if_pos (by simp), List.dropLast_concat, if_neg hx]
end Go.Proofs.YtdldoklkenhopaaGreatDoor.Ch
