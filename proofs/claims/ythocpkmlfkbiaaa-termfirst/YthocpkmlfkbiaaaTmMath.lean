/-
  What numbers are worth: whole numbers as numbers of the format, the least whole number that isn't below, a number times a power of 2, differences and quotients.
-/
import Derived.Test.YthocpkmlfkbiaaaTmRound
namespace Go.Proofs.Ythocpkmlfkbiaaa.Tm
open Go.RowKit Go.Proofs.Ythocpkmlfkbiaaa.Rl
set_option linter.unusedVariables false

theorem val_pos {r : Nat} (h : r ≠ 0) : 0 < val r := by
  have := val_lt (show 0 < r by omega)
  rw [val_zero] at this; exact this
/-- each number of at most 53 digits stands on a rung -/
theorem val_has (n L : Nat) (h : n < 9007199254740992) : ∃ q, val q = n * 2 ^ L := by
  by_cases z : n = 0
  · exact ⟨0, by rw [val_zero, z]; omega⟩
  have lo := Nat.log2_self_le z
  have hi : n < 2 ^ (n.log2 + 1) := Nat.lt_log2_self
  have hl : n.log2 < 53 := by rw [Nat.log2_lt z]; exact h
  generalize n.log2 = l at *
  by_cases c : 52 ≤ L + l
  · obtain ⟨d, hd⟩ : ∃ d, d = 52 - l := ⟨_, rfl⟩
    obtain ⟨M, hM⟩ : ∃ M, L = M + d := ⟨L - d, by omega⟩
    have a1 : 4503599627370496 ≤ n * 2 ^ d := by
      rw [show (4503599627370496 : Nat) = 2 ^ l * 2 ^ d by rw [← Nat.pow_add, show l + d = 52 by omega]]
      exact Nat.mul_le_mul_right _ lo
    have a2 : n * 2 ^ d ≤ 9007199254740992 := by
      rw [show (9007199254740992 : Nat) = 2 ^ (l + 1) * 2 ^ d by rw [← Nat.pow_add, show l + 1 + d = 53 by omega]]
      exact Nat.mul_le_mul_right _ (Nat.le_of_lt hi)
    refine ⟨M * 4503599627370496 + n * 2 ^ d, ?_⟩
    rw [val_lk (.inl a1) a2, hM, Nat.mul_assoc, ← Nat.pow_add, Nat.add_comm]
  · have a : n * 2 ^ L < 4503599627370496 := by
      refine Nat.lt_of_lt_of_le (Nat.mul_lt_mul_of_pos_right hi (Nat.two_pow_pos L)) ?_
      rw [← Nat.pow_add, show (4503599627370496 : Nat) = 2 ^ 52 by decide]
      exact Nat.pow_le_pow_right (by decide) (by omega)
    exact ⟨n * 2 ^ L, val_small a⟩
theorem val_inf (K : Nat) (hK : K = 2098) : val 9218868437227405312 = 2 ^ K := by
  obtain ⟨J, hJ⟩ : ∃ J, J = 2046 := ⟨_, rfl⟩
  rw [val_big (by decide), show 9218868437227405312 % 4503599627370496 = 0 by decide, show 9218868437227405312 / 4503599627370496 - 1 = J by rw [hJ], show (4503599627370496 + 0 : Nat) = 2 ^ 52 by decide, ← Nat.pow_add]
  congr 1; omega
/-- a number whose rung would stand at or behind the last one, or just where its worth is -/
theorem near_worth {p n L : Nat} (h : n < 9007199254740992) (hp : p ≤ 9218868437227405312) (hn : Near p (n * 2 ^ L) 1) : val p = min (n * 2 ^ L) (val 9218868437227405312) := by
  obtain ⟨q, hq⟩ := val_has n L h
  rcases Nat.lt_or_ge 9218868437227405312 q with c | c
  · have v := val_lt c
    rw [hq] at v
    have := near_mono (near_val 9218868437227405312) hn (by decide) (by decide) (by decide) (by omega)
    have e : p = 9218868437227405312 := by omega
    rw [e]; omega
  · have v := val_le c
    rw [near_exact hn (by decide) hp c (by rw [hq]; omega), hq]
    rw [hq] at v
    omega

/-- the unit: 1 in places of the least -/
def kk : Nat := 1074
theorem kk_eq : kk = 1074 := rfl
attribute [irreducible] kk
def one : Nat := 2 ^ kk
theorem one_pos : 0 < one := Nat.two_pow_pos kk
theorem one_pow : one = 2 ^ kk := rfl
attribute [irreducible] one
theorem inf_great : 9223372036854775809 * one ≤ val 9218868437227405312 := by
  obtain ⟨J, hJ⟩ : ∃ J, J = 1024 := ⟨_, rfl⟩
  rw [val_inf (J + kk) (by rw [hJ, kk_eq]), one_pow, Nat.pow_add]
  refine Nat.mul_le_mul_right _ ?_
  have : (2 : Nat) ^ 64 ≤ 2 ^ J := Nat.pow_le_pow_right (by decide) (by omega)
  omega

/-- a whole number's rung -/
def fi (n : Nat) : Nat := rg (floatOfInt .f64 (n : Int))
theorem ofInt_word (n : Nat) : ∃ r, floatOfInt .f64 (n : Int) = Ieee.double.word false r ∧ r ≤ 9218868437227405312 ∧ Near r (n * one) 1 := by
  have hA : At n 0 (n * one) 1 := by
    unfold At
    rw [show ((0 : Int) + 1074).toNat = kk by rw [kk_eq]; rfl, show (-((0 : Int) + 1074)).toNat = 0 by decide, one_pow]
  obtain ⟨r, h1, h2, h3⟩ := nearest_near false n 0 _ 1 (by decide) hA
  refine ⟨r, ?_, h2, h3⟩
  rw [← h1]
  show Ieee.double.nearest (decide ((n : Int) < 0)) (n : Int).natAbs 0 = _
  rw [decide_eq_false (by omega)]
  rfl
theorem word_false (r : Nat) : Ieee.double.word false r = r := rfl
theorem fi_eq (n : Nat) : floatOfInt .f64 (n : Int) = fi n ∧ fi n ≤ 9218868437227405312 ∧ Near (fi n) (n * one) 1 := by
  obtain ⟨r, h1, h2, h3⟩ := ofInt_word n
  have : fi n = r := by unfold fi; rw [h1, rg_word _ _ (by omega)]
  rw [this, h1, word_false]
  exact ⟨rfl, h2, h3⟩
theorem fi_val (n : Nat) (h : n ≤ 4611686018427387904) (h1 : n < 9007199254740992 ∨ ∃ k m, n = m * 2 ^ k ∧ m < 9007199254740992) : val (fi n) = n * one := by
  obtain ⟨_, f2, f3⟩ := fi_eq n
  have g := inf_great
  have i : n * one ≤ 9223372036854775809 * one := Nat.mul_le_mul_right _ (by omega)
  rcases h1 with a | ⟨k, m, e, a⟩
  · have e2 : n * one = n * 2 ^ kk := by rw [one_pow]
    rw [e2] at f3
    rw [near_worth a f2 f3, ← e2]
    omega
  · have e2 : n * one = m * 2 ^ (k + kk) := by rw [e, one_pow, Nat.pow_add, Nat.mul_assoc]
    rw [e2] at f3
    rw [near_worth a f2 f3, ← e2]
    omega
theorem fi_mono {a b : Nat} (h : a ≤ b) : fi a ≤ fi b := by
  obtain ⟨_, a2, a3⟩ := fi_eq a
  obtain ⟨_, b2, b3⟩ := fi_eq b
  exact near_mono a3 b3 (by decide) (by decide) a2 (by rw [Nat.mul_one, Nat.mul_one]; exact Nat.mul_le_mul_right _ h)
theorem fi_fin (n : Nat) (h : n ≤ 9223372036854775808) : fi n < 9218868437227405312 := by
  obtain ⟨m, hm⟩ : ∃ m, m = 9223372036854775808 := ⟨_, rfl⟩
  have e : val (fi m) = m * one := by
    obtain ⟨_, f2, f3⟩ := fi_eq m
    have g := inf_great
    have e2 : m * one = 1 * 2 ^ (63 + kk) := by
      rw [one_pow, Nat.pow_add, Nat.one_mul, hm]
    rw [e2] at f3
    rw [near_worth (by decide) f2 f3, ← e2, hm]
    have := one_pos
    omega
  have l := fi_mono (show n ≤ m by omega)
  have g := inf_great
  have := one_pos
  have v : val (fi m) < val 9218868437227405312 := by rw [e, hm]; omega
  have := val_iff.1 v
  omega

/-- the least whole number that isn't below -/
def up (s : Nat) : Nat := (val s + (one - 1)) / one
theorem up_iff (s t : Nat) : t < up s ↔ t * one < val s := by
  have h1 := one_pos
  unfold up
  rw [← Nat.succ_le_iff, Nat.le_div_iff_mul_le h1, Nat.succ_mul]
  omega
theorem lt_ext {a b : Nat} (h : ∀ t, t < a ↔ t < b) : a = b := by
  rcases Nat.lt_trichotomy a b with c | c | c
  · exact absurd ((h a).2 c) (by omega)
  · exact c
  · exact absurd ((h b).1 c) (by omega)
theorem fi_lt (s m : Nat) (h : m < 9007199254740992) : fi m < s ↔ m < up s := by
  rw [up_iff, ← fi_val m (by omega) (.inl h), val_iff]

theorem cut_up (n drop t : Nat) : t < Ieee.Toward.up.cut false n drop ↔ t * 2 ^ drop < n := by
  unfold Ieee.Toward.cut
  rw [Nat.one_shiftLeft]
  dsimp only
  have key : ∀ G : Nat, 0 < G → (t < n / G + (!false && n % G != 0).toNat ↔ t * G < n) := by
    intro G hG
    have hd := Nat.div_add_mod n G
    have hm := Nat.mod_lt n hG
    generalize n / G = low at *
    generalize n % G = rest at *
    rw [Nat.mul_comm G] at hd
    by_cases c : rest = 0
    · subst c
      have : (!false && (0 : Nat) != 0).toNat = 0 := rfl
      rw [this, Nat.add_zero]
      constructor
      · intro h
        have := Nat.mul_le_mul_right G (show t + 1 ≤ low by omega)
        rw [Nat.add_mul] at this
        omega
      · intro h
        rcases Nat.lt_or_ge t low with a | a
        · exact a
        · have := Nat.mul_le_mul_right G a
          omega
    · have : (!false && rest != 0).toNat = 1 := by
        have : (rest != 0) = true := by simpa using c
        rw [this]; rfl
      rw [this]
      constructor
      · intro h
        have := Nat.mul_le_mul_right G (show t ≤ low by omega)
        omega
      · intro h
        rcases Nat.lt_or_ge t (low + 1) with a | a
        · exact a
        · have := Nat.mul_le_mul_right G a
          rw [Nat.add_mul] at this
          omega
  by_cases c : drop ≤ n.log2 + 2
  · rw [Nat.min_eq_left c]; exact key _ (Nat.two_pow_pos _)
  · rw [Nat.min_eq_right (by omega), key _ (Nat.two_pow_pos _)]
    have hn : n < 2 ^ (n.log2 + 1) := Nat.lt_log2_self
    have e1 : 2 ^ (n.log2 + 1) ≤ 2 ^ (n.log2 + 2) := Nat.pow_le_pow_right (by decide) (by omega)
    have e2 : 2 ^ (n.log2 + 2) ≤ 2 ^ drop := Nat.pow_le_pow_right (by decide) (by omega)
    by_cases z : t = 0
    · subst z; omega
    · have a := Nat.le_mul_of_pos_left (2 ^ (n.log2 + 2)) (show 0 < t by omega)
      have b := Nat.le_mul_of_pos_left (2 ^ drop) (show 0 < t by omega)
      omega
theorem cut_down (n drop : Nat) : Ieee.Toward.zero.cut false n drop = n / 2 ^ drop := by
  unfold Ieee.Toward.cut
  rw [Nat.one_shiftLeft]
  dsimp only
  by_cases c : drop ≤ n.log2 + 2
  · rw [Nat.min_eq_left c]; rfl
  · rw [Nat.min_eq_right (by omega)]
    have hn : n < 2 ^ (n.log2 + 1) := Nat.lt_log2_self
    have e1 : 2 ^ (n.log2 + 1) ≤ 2 ^ (n.log2 + 2) := Nat.pow_le_pow_right (by decide) (by omega)
    have e2 : 2 ^ (n.log2 + 2) ≤ 2 ^ drop := Nat.pow_le_pow_right (by decide) (by omega)
    rw [Nat.div_eq_of_lt (by omega), Nat.div_eq_of_lt (by omega)]; rfl

/-- what Ceil makes of a number that isn't below 0 and has an end -/
theorem integral_up (x : Nat) (hx : x < 9218868437227405312) : (Ieee.double.read x).integral .up = .number false (up x) 0 := by
  have r : rg x = x := by unfold rg; omega
  have g : ng x = false := by unfold ng; rw [decide_eq_false (by omega)]
  obtain ⟨m, e, h1, v1⟩ := read_num x (by omega) (by rw [r]; exact hx)
  rw [r] at v1
  rw [h1, g]
  unfold Ieee.Datum.integral
  dsimp only
  congr 1
  refine lt_ext fun t => ?_
  rw [cut_up, up_iff, ← v1, Nat.shiftLeft_eq]
  have hK := kk_eq
  rw [one_pow]
  generalize kk = K at *
  rw [show ((-1074 : Int) + (e : Int)).toNat = e - K by omega, show (-((-1074 : Int) + (e : Int))).toNat = K - e by omega]
  rcases Nat.lt_or_ge e K with c | c
  · rw [show e - K = 0 by omega, Nat.pow_zero, Nat.mul_one, show (2 : Nat) ^ K = 2 ^ (K - e) * 2 ^ e by rw [← Nat.pow_add]; congr 1; omega, ← Nat.mul_assoc]
    exact (Nat.mul_lt_mul_right (Nat.two_pow_pos e)).symm
  · rw [show K - e = 0 by omega, Nat.pow_zero, Nat.mul_one, show (2 : Nat) ^ e = 2 ^ (e - K) * 2 ^ K by rw [← Nat.pow_add]; congr 1; omega, ← Nat.mul_assoc]
    exact (Nat.mul_lt_mul_right (Nat.two_pow_pos K)).symm
theorem write_nat (n : Nat) : Ieee.double.write (.number false n 0) = fi n := by
  rw [← (fi_eq n).1]
  show _ = Ieee.double.nearest (decide ((n : Int) < 0)) (n : Int).natAbs 0
  rw [decide_eq_false (by omega)]
  rfl
theorem ceil_bits (x : Nat) (hx : x < 9218868437227405312) : FloatKind.f64.encode ((FloatKind.f64.decode x).integral .up) = fi (up x) := by
  show Ieee.double.write ((Ieee.double.read x).integral .up) = _
  rw [integral_up x hx, write_nat]
theorem toInt_fi (n : Nat) (h : n < 9007199254740992) : floatToIntVal .f64 (fi n) .i64 = some (n : Int) := by
  have f := fi_fin n (by omega)
  have v := fi_val n (by omega) (.inl h)
  have r : rg (fi n) = fi n := by generalize fi n = q at *; unfold rg; omega
  have g : ng (fi n) = false := by generalize fi n = q at *; unfold ng; rw [decide_eq_false (by omega)]
  obtain ⟨m, e, h1, v1⟩ := read_num (fi n) (by omega) (by rw [r]; exact f)
  rw [r, v] at v1
  have key : (Ieee.double.read (fi n)).toInt .zero = some (n : Int) := by
    rw [h1, g]
    unfold Ieee.Datum.toInt Ieee.Datum.integral
    dsimp only
    rw [cut_down, signed_sv, Nat.pow_zero, Nat.mul_one, Nat.shiftLeft_eq]
    have : m * 2 ^ ((-1074 : Int) + (e : Int)).toNat / 2 ^ (-((-1074 : Int) + (e : Int))).toNat = n := by
      have hK := kk_eq
      rw [one_pow] at v1
      generalize kk = K at *
      rw [show ((-1074 : Int) + (e : Int)).toNat = e - K by omega, show (-((-1074 : Int) + (e : Int))).toNat = K - e by omega]
      rcases Nat.lt_or_ge e K with c | c
      · rw [show e - K = 0 by omega, Nat.pow_zero, Nat.mul_one]
        rw [show (2 : Nat) ^ K = 2 ^ (K - e) * 2 ^ e by rw [← Nat.pow_add]; congr 1; omega, ← Nat.mul_assoc] at v1
        rw [Nat.eq_of_mul_eq_mul_right (Nat.two_pow_pos e) v1, Nat.mul_div_cancel _ (Nat.two_pow_pos _)]
      · rw [show K - e = 0 by omega, Nat.pow_zero, Nat.div_one]
        rw [show (2 : Nat) ^ e = 2 ^ (e - K) * 2 ^ K by rw [← Nat.pow_add]; congr 1; omega, ← Nat.mul_assoc] at v1
        exact Nat.eq_of_mul_eq_mul_right (Nat.two_pow_pos K) v1
    rw [this]; rfl
  unfold floatToIntVal
  show (match (Ieee.double.read (fi n)).toInt .zero with | some n => if IntKind.i64.min ≤ n ∧ n ≤ IntKind.i64.max then some n else none | none => none) = _
  rw [key]
  dsimp only
  have m1 : IntKind.i64.min = -9223372036854775808 := by rfl
  have m2 : IntKind.i64.max = 9223372036854775807 := by rfl
  rw [m1, m2, if_pos (by omega)]
attribute [irreducible] fi up
end Go.Proofs.Ythocpkmlfkbiaaa.Tm
