/-
  Contracts of hexa.Unhexnum: what it answers for every text of at most 2^62 bytes.
-/
import Derived.Test.YtdldoklkenhopaaDoorSet1
namespace Go.Proofs.YtdldoklkenhopaaDoor.Hx
open Go.RowKit Go.PlainAid
set_option linter.unusedVariables false
set_option maxRecDepth 20000

theorem sv_bd (c : Int) : 0 ≤ sv c ∧ sv c ≤ 15 := by unfold sv; split <;> (try split) <;> omega
theorem av_bd (c : Int) : 0 ≤ av c ∧ av c ≤ 15 := by
  have := sv_bd c
  unfold av; split <;> omega

/-- the first k bytes are digits of base 16 -/
def AllHex (s : ByteArray) (k : Nat) : Prop := ∀ j, j < k → aok (bt s j) = true
theorem AllHex.zero (s : ByteArray) : AllHex s 0 := fun _ h => absurd h (Nat.not_lt_zero _)
theorem AllHex.succ {s : ByteArray} {k : Nat} (h : AllHex s k) (h0 : aok (bt s k) = true) : AllHex s (k + 1) := fun j hj => by
  by_cases e : j = k
  · subst e; exact h0
  · exact h j (by omega)
/-- the number of the first k digits of base 16 -/
def hexTo (s : ByteArray) : Nat → Int
  | 0 => 0
  | k + 1 => hexTo s k * 16 + av (bt s k)
theorem hexTo_bd (s : ByteArray) : ∀ k, 0 ≤ hexTo s k ∧ hexTo s k < 16 ^ k
  | 0 => ⟨Int.le_refl _, show (0 : Int) < 16 ^ 0 by decide⟩
  | k + 1 => by
    have ih := hexTo_bd s k
    have hd := av_bd (bt s k)
    have e : (16 : Int) ^ (k + 1) = 16 ^ k * 16 := Int.pow_succ 16 k
    simp only [hexTo]
    omega
theorem hexTo_fits (s : ByteArray) (k : Nat) (hk : k ≤ 16) : 0 ≤ hexTo s k ∧ hexTo s k ≤ 18446744073709551615 := by
  have hb := hexTo_bd s k
  have hp : (16 : Nat) ^ k ≤ 16 ^ 16 := Nat.pow_le_pow_right (by decide) hk
  have hp' : (16 : Int) ^ k ≤ 16 ^ 16 := by exact_mod_cast hp
  have e : (16 : Int) ^ 16 = 18446744073709551616 := by decide
  omega
theorem hexTo_small (s : ByteArray) (k : Nat) (hk : k < 16) : 0 ≤ hexTo s k ∧ hexTo s k ≤ 1152921504606846975 := by
  have hb := hexTo_bd s k
  have hp : (16 : Nat) ^ k ≤ 16 ^ 15 := Nat.pow_le_pow_right (by decide) (by omega)
  have hp' : (16 : Int) ^ k ≤ 16 ^ 15 := by exact_mod_cast hp
  have e : (16 : Int) ^ 15 = 1152921504606846976 := by decide
  omega

theorem wraps_u64 (n : Int) (h₀ : 0 ≤ n) (h₁ : n < 2 ^ 64) : IntKind.u64.wrap n = n := IntWalk.u64_in n ⟨h₀, by omega⟩
theorem or16 (x d : Int) (h0 : 0 ≤ x) (h1 : x ≤ 1152921504606846975) (h2 : 0 ≤ d) (h3 : d ≤ 15) : bits .or .u64 (x * 16) d = x * 16 + d :=
  bits_join .u64 64 (by decide) wraps_u64 4 (x * 16) d (by omega) (by omega) (by omega) h2 (by omega) (by omega)

/-- a text is 1 to 16 digits of base 16 -/
def HexForm (s : ByteArray) : Prop := 0 < s.size ∧ s.size ≤ 16 ∧ AllHex s s.size

def UnhexnumPost (s : ByteArray) (m : Int) (w : World) (e : Ending) (w' : World) : Prop :=
  ((HexForm s ∧ e = .returned (.tuple #[.int .i64 (amN (hexTo s s.size) m), .int .i64 (amE (hexTo s s.size) m)])) ∨ (¬ HexForm s ∧ e = .returned (.tuple #[.int .i64 0, .int .i64 3]))) ∧ w = w'

end Go.Proofs.YtdldoklkenhopaaDoor.Hx
