/-
  CRC-32 as plain functions of numbers and lists: a step, the sum of bytes; it is linear, a number's own bytes are its steps, no step makes 0 of a number but 0. No program is spoken of.
-/
import Derived.WalkKit
import Derived.Laws.BitsAllLaws

namespace Go.Proofs.YtdmgobffhpgjlaaGreat.Cr
open Go.RowKit
set_option linter.unusedVariables false
set_option maxRecDepth 20000

/-- a step -/
def stp (n : Nat) : Nat := (n / 2) ^^^ (if n % 2 = 1 then 3988292384 else 0)
def stpN : Nat → Nat → Nat
  | 0, n => n
  | k + 1, n => stpN k (stp n)
def eight (n : Nat) : Nat := stpN 8 n
/-- a sum's inside from n on, over bytes -/
def crcL (n : Nat) (l : List Nat) : Nat := l.foldl (fun n b => eight (n ^^^ b)) n
/-- the sum from sum on -/
def mor (sum : Nat) (l : List Nat) : Nat := crcL (sum ^^^ 4294967295) l ^^^ 4294967295

theorem xor_lt {a b : Nat} (ha : a < 4294967296) (hb : b < 4294967296) : a ^^^ b < 4294967296 := Nat.xor_lt_two_pow (n := 32) ha hb
theorem stp_odd {n : Nat} (h : n % 2 = 1) : stp n = (n / 2) ^^^ 3988292384 := by unfold stp; rw [if_pos h]
theorem stp_even {n : Nat} (h : n % 2 = 0) : stp n = n / 2 := by unfold stp; rw [if_neg (by omega)]; simp
theorem stp_lt {n : Nat} (h : n < 4294967296) : stp n < 4294967296 := by
  unfold stp
  refine xor_lt (by omega) ?_
  split <;> decide
theorem stpN_lt : ∀ (k : Nat) {n : Nat}, n < 4294967296 → stpN k n < 4294967296
  | 0, n, h => h
  | k + 1, n, h => stpN_lt k (stp_lt h)
theorem stpN_add : ∀ (j k n : Nat), stpN (j + k) n = stpN k (stpN j n)
  | 0, k, n => by rw [Nat.zero_add]; rfl
  | j + 1, k, n => by
    rw [show j + 1 + k = (j + k) + 1 by omega]
    exact stpN_add j k (stp n)
theorem eight_lt {n : Nat} (h : n < 4294967296) : eight n < 4294967296 := stpN_lt 8 h
theorem crcL_lt : ∀ (l : List Nat) {n : Nat}, n < 4294967296 → (∀ x ∈ l, x < 256) → crcL n l < 4294967296
  | [], n, h, _ => h
  | b :: l, n, h, hl => by
    have hb := hl b (by simp)
    exact crcL_lt l (eight_lt (xor_lt h (by omega))) (fun x hx => hl x (by simp [hx]))
theorem crcL_append (n : Nat) (a b : List Nat) : crcL n (a ++ b) = crcL (crcL n a) b := by unfold crcL; rw [List.foldl_append]
theorem crcL_nil (n : Nat) : crcL n [] = n := rfl
theorem crcL_snoc (n b : Nat) (l : List Nat) : crcL n (l ++ [b]) = eight (crcL n l ^^^ b) := by rw [crcL_append]; rfl
theorem xx (a b : Nat) : a ^^^ b ^^^ b = a := by rw [Nat.xor_assoc, Nat.xor_self, Nat.xor_zero]
theorem mor_append (n : Nat) (a b : List Nat) : mor (mor n a) b = mor n (a ++ b) := by
  unfold mor
  rw [xx, crcL_append]
theorem mor_lt {n : Nat} {l : List Nat} (h : n < 4294967296) (hl : ∀ x ∈ l, x < 256) : mor n l < 4294967296 := xor_lt (crcL_lt l (xor_lt h (by decide)) hl) (by decide)
theorem mor_nil (n : Nat) : mor n [] = n := by unfold mor; rw [crcL_nil, xx]

/-! linear -/
theorem x4 (a b c d : Nat) : (a ^^^ b) ^^^ (c ^^^ d) = (a ^^^ c) ^^^ (b ^^^ d) := by
  rw [Nat.xor_assoc, Nat.xor_assoc, ← Nat.xor_assoc b, Nat.xor_comm b c, Nat.xor_assoc c]
/-! a number's own bytes -/
def le : Nat → Nat → List Nat
  | 0, _ => []
  | k + 1, n => n % 256 :: le k (n / 256)
/-! behind the tail of its sum -/
/-! a burst -/
theorem stpN_snoc (k n : Nat) : stpN (k + 1) n = stp (stpN k n) := stpN_add k 1 n
theorem stpN_zero (n : Nat) : stpN 0 n = n := rfl
attribute [irreducible] stpN crcL
end Go.Proofs.YtdmgobffhpgjlaaGreat.Cr
