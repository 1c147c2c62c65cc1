/-
  CRC-32 as plain functions of numbers and lists: a step, the sum of bytes; it is linear, a number's own bytes are its steps, no step makes 0 of a number but 0. No program is spoken of.
-/
import Derived.WalkKit
import Derived.Laws.BitsAllLaws
namespace Go.Proofs.Ytahalddoloppmaa.Cr
open Go.RowKit
set_option linter.unusedVariables false

/-- a step -/
def stp (n : Nat) : Nat := (n / 2) ^^^ (if n % 2 = 1 then 3988292384 else 0)
def stpN : Nat → Nat → Nat
  | 0, n => n
  | k + 1, n => stpN k (stp n)
def eight (n : Nat) : Nat := stpN 8 n
/-- a sum's inside from n on, over bytes -/
def crcL (n : Nat) (l : List Nat) : Nat := l.foldl (fun n b => eight (n ^^^ b)) n
/-- the sum from sum on -/
def mor (sum : Nat) (l : List Nat) : Nat := crcL (sum ^^^ 4294967295) l ^^^ 4294967295

theorem xor_lt {a b : Nat} (ha : a < 4294967296) (hb : b < 4294967296) : a ^^^ b < 4294967296 := Nat.xor_lt_two_pow (n := 32) ha hb
theorem stp_odd {n : Nat} (h : n % 2 = 1) : stp n = (n / 2) ^^^ 3988292384 := by unfold stp; rw [if_pos h]
theorem stp_even {n : Nat} (h : n % 2 = 0) : stp n = n / 2 := by unfold stp; rw [if_neg (by omega)]; simp
theorem stp_lt {n : Nat} (h : n < 4294967296) : stp n < 4294967296 := by
  unfold stp
  refine xor_lt (by omega) ?_
  split <;> decide
theorem stpN_lt : ∀ (k : Nat) {n : Nat}, n < 4294967296 → stpN k n < 4294967296
  | 0, n, h => h
  | k + 1, n, h => stpN_lt k (stp_lt h)
theorem stpN_add : ∀ (j k n : Nat), stpN (j + k) n = stpN k (stpN j n)
  | 0, k, n => by rw [Nat.zero_add]; rfl
  | j + 1, k, n => by
    rw [show j + 1 + k = (j + k) + 1 by omega]
    exact stpN_add j k (stp n)
theorem eight_lt {n : Nat} (h : n < 4294967296) : eight n < 4294967296 := stpN_lt 8 h
theorem crcL_lt : ∀ (l : List Nat) {n : Nat}, n < 4294967296 → (∀ x ∈ l, x < 256) → crcL n l < 4294967296
  | [], n, h, _ => h
  | b :: l, n, h, hl => by
    have hb := hl b (by simp)
    exact crcL_lt l (eight_lt (xor_lt h (by omega))) (fun x hx => hl x (by simp [hx]))
theorem crcL_append (n : Nat) (a b : List Nat) : crcL n (a ++ b) = crcL (crcL n a) b := by unfold crcL; rw [List.foldl_append]
theorem crcL_cons (n b : Nat) (l : List Nat) : crcL n (b :: l) = crcL (eight (n ^^^ b)) l := rfl
theorem crcL_nil (n : Nat) : crcL n [] = n := rfl
theorem crcL_snoc (n b : Nat) (l : List Nat) : crcL n (l ++ [b]) = eight (crcL n l ^^^ b) := by rw [crcL_append]; rfl
theorem xx (a b : Nat) : a ^^^ b ^^^ b = a := by rw [Nat.xor_assoc, Nat.xor_self, Nat.xor_zero]
theorem mor_append (n : Nat) (a b : List Nat) : mor (mor n a) b = mor n (a ++ b) := by
  unfold mor
  rw [xx, crcL_append]
theorem mor_lt {n : Nat} {l : List Nat} (h : n < 4294967296) (hl : ∀ x ∈ l, x < 256) : mor n l < 4294967296 := xor_lt (crcL_lt l (xor_lt h (by decide)) hl) (by decide)
theorem mor_nil (n : Nat) : mor n [] = n := by unfold mor; rw [crcL_nil, xx]

/-! linear -/
theorem xor_half (a b : Nat) : (a ^^^ b) / 2 = (a / 2) ^^^ (b / 2) := by
  have := Nat.xor_div_two_pow (a := a) (b := b) (n := 1)
  simpa using this
theorem xor_odd (a b : Nat) : (a ^^^ b) % 2 = (a + b) % 2 := by
  have := Nat.xor_mod_two_pow (a := a) (b := b) (n := 1)
  rw [Nat.pow_one] at this
  rw [this, Nat.add_mod]
  have ha := Nat.mod_two_eq_zero_or_one a
  have hb := Nat.mod_two_eq_zero_or_one b
  rcases ha with ha | ha <;> rcases hb with hb | hb <;> rw [ha, hb] <;> decide
theorem x4 (a b c d : Nat) : (a ^^^ b) ^^^ (c ^^^ d) = (a ^^^ c) ^^^ (b ^^^ d) := by
  rw [Nat.xor_assoc, Nat.xor_assoc, ← Nat.xor_assoc b, Nat.xor_comm b c, Nat.xor_assoc c]
theorem stp_xor (a b : Nat) : stp (a ^^^ b) = stp a ^^^ stp b := by
  unfold stp
  rw [xor_half, xor_odd, x4]
  congr 1
  rcases Nat.mod_two_eq_zero_or_one a with ha | ha <;> rcases Nat.mod_two_eq_zero_or_one b with hb | hb
  · rw [if_neg (by omega), if_neg (by omega), if_neg (by omega)]; decide
  · rw [if_pos (by omega), if_neg (by omega), if_pos (by omega)]; decide
  · rw [if_pos (by omega), if_pos (by omega), if_neg (by omega)]; decide
  · rw [if_neg (by omega), if_pos (by omega), if_pos (by omega)]; decide
theorem stpN_xor : ∀ (k a b : Nat), stpN k (a ^^^ b) = stpN k a ^^^ stpN k b
  | 0, a, b => rfl
  | k + 1, a, b => by
    show stpN k (stp (a ^^^ b)) = _
    rw [stp_xor]
    exact stpN_xor k (stp a) (stp b)
theorem eight_xor (a b : Nat) : eight (a ^^^ b) = eight a ^^^ eight b := stpN_xor 8 a b
theorem crcL_xor : ∀ (l r : List Nat) (a b : Nat), l.length = r.length → crcL (a ^^^ b) (List.zipWith (· ^^^ ·) l r) = crcL a l ^^^ crcL b r
  | [], [], a, b, _ => rfl
  | x :: l, y :: r, a, b, h => by
    rw [List.zipWith_cons_cons, crcL_cons, crcL_cons, crcL_cons, x4, eight_xor]
    exact crcL_xor l r _ _ (by simpa using h)

/-! a number's own bytes -/
def le : Nat → Nat → List Nat
  | 0, _ => []
  | k + 1, n => n % 256 :: le k (n / 256)
theorem stp_dbl (v : Nat) : stp (2 * v) = v := by rw [stp_even (by omega)]; omega
theorem stpN_shl : ∀ (k v : Nat), stpN k (v * 2 ^ k) = v
  | 0, v => by simp [stpN]
  | k + 1, v => by
    show stpN k (stp _) = v
    rw [show v * 2 ^ (k + 1) = 2 * (v * 2 ^ k) by rw [Nat.pow_succ]; rw [← Nat.mul_assoc, Nat.mul_comm]]
    rw [stp_dbl]
    exact stpN_shl k v
theorem low_xor (n : Nat) : (n % 256) ^^^ (n / 256 * 256) = n := by
  apply Nat.eq_of_testBit_eq
  intro i
  rw [Nat.testBit_xor, show (256 : Nat) = 2 ^ 8 by decide, Nat.testBit_mod_two_pow, Nat.testBit_mul_two_pow, Nat.testBit_div_two_pow]
  by_cases h : i < 8
  · simp [h, show ¬ 8 ≤ i by omega]
  · simp [h, show 8 ≤ i by omega, show i - 8 + 8 = i by omega]
theorem crcL_le : ∀ (k n x : Nat), n < 256 ^ k → crcL x (le k n) = stpN (8 * k) (x ^^^ n)
  | 0, n, x, h => by
    have : n = 0 := by simpa using h
    subst this; simp [le, crcL_nil, stpN]
  | k + 1, n, x, h => by
    show crcL x (n % 256 :: le k (n / 256)) = _
    rw [crcL_cons, crcL_le k (n / 256) _ (by rw [Nat.pow_succ] at h; omega), show 8 * (k + 1) = 8 + 8 * k by omega, stpN_add]
    congr 1
    have e : eight (n / 256 * 256) = n / 256 := stpN_shl 8 (n / 256)
    rw [show x ^^^ n = (x ^^^ n % 256) ^^^ (n / 256 * 256) by rw [Nat.xor_assoc, low_xor]]
    show _ = eight _
    rw [eight_xor (x ^^^ n % 256), e]

/-! behind the tail of its sum -/
theorem behind (l : List Nat) (hl : ∀ x ∈ l, x < 256) : mor (mor 0 l) (le 4 (mor 0 l)) = 558161692 := by
  have h := mor_lt (n := 0) (l := l) (by decide) hl
  have e : mor 0 l ^^^ 4294967295 ^^^ mor 0 l = 4294967295 := by
    rw [Nat.xor_comm (mor 0 l), xx]
  show crcL (mor 0 l ^^^ 4294967295) (le 4 (mor 0 l)) ^^^ 4294967295 = _
  rw [crcL_le 4 _ _ (by simpa using h), e]
  decide +kernel

/-! a burst -/
theorem stp_ne {n : Nat} (h : n < 4294967296) (h0 : n ≠ 0) : stp n ≠ 0 := by
  rcases Nat.mod_two_eq_zero_or_one n with e | e
  · rw [stp_even e]; omega
  · rw [stp_odd e]
    intro c
    have : n / 2 = 3988292384 := by
      have := congrArg (· ^^^ 3988292384) c
      simp only [xx, Nat.zero_xor] at this
      exact this
    omega
theorem stpN_ne : ∀ (k : Nat) {n : Nat}, n < 4294967296 → n ≠ 0 → stpN k n ≠ 0
  | 0, n, _, h => h
  | k + 1, n, h, h0 => stpN_ne k (stp_lt h) (stp_ne h h0)
theorem zeros_ne : ∀ (k : Nat) {n : Nat}, n < 4294967296 → n ≠ 0 → crcL n (List.replicate k 0) ≠ 0
  | 0, n, _, h => h
  | k + 1, n, h, h0 => by
    rw [List.replicate_succ, crcL_cons, Nat.xor_zero]
    exact zeros_ne k (eight_lt h) (stpN_ne 8 h h0)
theorem zeros_zero : ∀ (k : Nat), crcL 0 (List.replicate k 0) = 0
  | 0 => rfl
  | k + 1 => by
    rw [List.replicate_succ, crcL_cons]
    exact zeros_zero k
/-- the sum's inside over zeros, k bytes of a number that is a mask shifted by r, and zeros again -/
theorem burst_ne (i j k mask r : Nat) (h0 : mask ≠ 0) (h1 : mask < 4294967296) (hr : r ≤ 8 * k) (hk : mask * 2 ^ r < 256 ^ k) :
    crcL 0 (List.replicate i 0 ++ le k (mask * 2 ^ r) ++ List.replicate j 0) ≠ 0 := by
  rw [crcL_append, crcL_append, zeros_zero, crcL_le k _ _ hk, Nat.zero_xor, show 8 * k = r + (8 * k - r) by omega, stpN_add, stpN_shl]
  exact zeros_ne j (stpN_lt _ h1) (stpN_ne _ h1 h0)
theorem xor_ne {a b : Nat} (h : a ^^^ b ≠ 0) : a ≠ b := by
  intro e; subst e; exact h (Nat.xor_self a)
theorem stpN_snoc (k n : Nat) : stpN (k + 1) n = stp (stpN k n) := stpN_add k 1 n
theorem stpN_zero (n : Nat) : stpN 0 n = n := rfl
attribute [irreducible] stpN crcL
end Go.Proofs.Ytahalddoloppmaa.Cr
