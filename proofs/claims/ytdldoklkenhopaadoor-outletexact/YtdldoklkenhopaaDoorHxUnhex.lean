/-
  Contract of hexa.Unhex: for every text of at most 2^40 bytes it answers the bytes of which the text is Hex, or ErrForm; nothing that was there is changed.
-/
import Derived.Test.YtdldoklkenhopaaDoorHxRow
namespace Go.Proofs.YtdldoklkenhopaaDoor.Hx
open Go.RowKit Go.PlainAid
set_option linter.unusedVariables false
set_option maxRecDepth 20000

/-- the first k bytes are small digits of base 16 -/
def AllSm (s : ByteArray) (k : Nat) : Prop := ∀ j, j < k → sok (bt s j) = true
theorem AllSm.zero (s : ByteArray) : AllSm s 0 := fun _ h => absurd h (Nat.not_lt_zero _)
theorem AllSm.succ2 {s : ByteArray} {k : Nat} (h : AllSm s (2 * k)) (h0 : sok (bt s (2 * k)) = true) (h1 : sok (bt s (2 * k + 1)) = true) : AllSm s (2 * (k + 1)) := fun j hj => by
  by_cases e : j = 2 * k
  · subst e; exact h0
  · by_cases e' : j = 2 * k + 1
    · subst e'; exact h1
    · exact h j (by omega)
/-- the byte of two digits -/
def pair (s : ByteArray) (k : Nat) : UInt8 := UInt8.ofNat (sv (bt s (2 * k)) * 16 + sv (bt s (2 * k + 1))).toNat
theorem pair_nat (s : ByteArray) (k : Nat) : ((pair s k).toNat : Int) = sv (bt s (2 * k)) * 16 + sv (bt s (2 * k + 1)) := by
  have a := sv_bd (bt s (2 * k))
  have b := sv_bd (bt s (2 * k + 1))
  unfold pair
  rw [UInt8.toNat_ofNat']
  omega
/-- the bytes of the first k pairs of digits -/
def unTo (s : ByteArray) : Nat → List UInt8
  | 0 => []
  | k + 1 => unTo s k ++ [pair s k]
theorem unTo_len (s : ByteArray) : ∀ k, (unTo s k).length = k
  | 0 => rfl
  | k + 1 => by simp [unTo, unTo_len s k]
def UnForm (s : ByteArray) : Prop := s.size % 2 = 0 ∧ AllSm s s.size

theorem or16b (x d : Int) (h0 : 0 ≤ x) (h1 : x ≤ 15) (h2 : 0 ≤ d) (h3 : d ≤ 15) : bits .or .u8 (x * 16) d = x * 16 + d :=
  bits_join .u8 8 (by decide) wraps_u8 4 (x * 16) d (by omega) (by omega) (by omega) h2 (by omega) (by omega)

def UnhexPost (s : ByteArray) (w : World) (e : Ending) (w' : World) : Prop :=
  ((UnForm s ∧ e = .returned (.tuple #[.string ⟨(unTo s (s.size / 2)).toArray⟩, .int .i64 0])) ∨ (¬ UnForm s ∧ e = .returned (.tuple #[.string ⟨#[]⟩, .int .i64 3]))) ∧ Below w.heap.size w w'

theorem unhex_step {B n : Nat} {v : Value} {w1 : World} (s : ByteArray) (k : Nat) (hown : w1.ownsRow B 5 1 v n (bytesV (unTo s k) ++ [.int .u8 (sv (bt s (2 * k)) * 16 + sv (bt s (2 * k + 1)))])) :
    w1.ownsRow B 5 1 v n (bytesV (unTo s (k + 1))) := by
  simp only [unTo, bytesV_append]
  rw [← pair_nat] at hown
  exact hown

end Go.Proofs.YtdldoklkenhopaaDoor.Hx
