/-
  Contracts of hexa.isDecimal and hexa.Undec: what they answer for every text of at most 2^62 bytes.
-/
import Derived.Test.YtjdfninaccaagaaDoorHxLeaf
import Derived.PlainAid
namespace Go.Proofs.YtjdfninaccaagaaDoor.Hx
open Go.RowKit Go.PlainAid
set_option linter.unusedVariables false
set_option maxRecDepth 20000

/-- the first k bytes are decimal digits -/
def AllDig (s : ByteArray) (k : Nat) : Prop := ∀ j, j < k → 48 ≤ bt s j ∧ bt s j ≤ 57
theorem AllDig.zero (s : ByteArray) : AllDig s 0 := fun _ h => absurd h (Nat.not_lt_zero _)
theorem AllDig.succ {s : ByteArray} {k : Nat} (h : AllDig s k) (h0 : 48 ≤ bt s k) (h1 : bt s k ≤ 57) : AllDig s (k + 1) := fun j hj => by
  by_cases e : j = k
  · subst e; exact ⟨h0, h1⟩
  · exact h j (by omega)

/-- a text is a decimal number's: some digits, of more than one the first isn't 0 -/
def DecForm (s : ByteArray) : Prop := 0 < s.size ∧ (1 < s.size → bt s 0 ≠ 48) ∧ AllDig s s.size

theorem toList_nil (s : ByteArray) (h : s.size = 0) : s.toList = [] := by
  rw [ByteArray.toList_eq]; apply List.eq_nil_of_length_eq_zero; simpa using h
theorem toList_ne (s : ByteArray) (h : 0 < s.size) : s.toList.isEmpty = false := by
  rw [ByteArray.toList_eq]
  cases e : s.data.toList with
  | nil => have : s.data.toList.length = 0 := by rw [e]; rfl
           have h2 : s.size = s.data.toList.length := by simp
           omega
  | cons a b => rfl
theorem toList_ne' (s : ByteArray) (h : 0 < s.size) : ¬ s.toList = [] := by
  have := toList_ne s h
  intro e; rw [e] at this; cases this

def IsDecPost (s : ByteArray) (w : World) (e : Ending) (w' : World) : Prop := ∃ b : Bool, e = .returned (.bool b) ∧ (b = true ↔ DecForm s) ∧ w = w'

/-- the number of the first k decimal digits -/
def decTo (s : ByteArray) : Nat → Int
  | 0 => 0
  | k + 1 => decTo s k * 10 + (bt s k - 48)
theorem decTo_bd {s : ByteArray} {n : Nat} (h : AllDig s n) : ∀ k, k ≤ n → 0 ≤ decTo s k ∧ decTo s k < 10 ^ k
  | 0, _ => ⟨Int.le_refl _, show (0 : Int) < 10 ^ 0 by decide⟩
  | k + 1, hk => by
    have ih := decTo_bd h k (by omega)
    have hd := h k (by omega)
    have e : (10 : Int) ^ (k + 1) = 10 ^ k * 10 := Int.pow_succ 10 k
    simp only [decTo]
    omega
/-- of at most 19 digits: it fits -/
theorem decTo_fits {s : ByteArray} {n : Nat} (h : AllDig s n) (hn : n ≤ 19) (k : Nat) (hk : k ≤ n) : 0 ≤ decTo s k ∧ decTo s k ≤ 10000000000000000000 := by
  have hb := decTo_bd h k hk
  have hp : (10 : Nat) ^ k ≤ 10 ^ 19 := Nat.pow_le_pow_right (by decide) (by omega)
  have hp' : (10 : Int) ^ k ≤ 10 ^ 19 := by exact_mod_cast hp
  have e : (10 : Int) ^ 19 = 10000000000000000000 := by decide
  omega
theorem decTo_small {s : ByteArray} {n : Nat} (h : AllDig s n) (hn : n ≤ 19) (k : Nat) (hk : k < n) : 0 ≤ decTo s k ∧ decTo s k ≤ 1000000000000000000 := by
  have hb := decTo_bd h k (by omega)
  have hp : (10 : Nat) ^ k ≤ 10 ^ 18 := Nat.pow_le_pow_right (by decide) (by omega)
  have hp' : (10 : Int) ^ k ≤ 10 ^ 18 := by exact_mod_cast hp
  have e : (10 : Int) ^ 18 = 1000000000000000000 := by decide
  omega

end Go.Proofs.YtjdfninaccaagaaDoor.Hx
