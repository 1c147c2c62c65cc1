/-
  A number times a power of 2, differences and quotients of numbers that aren't below 0: valid, and the nearest to the exact result.
-/
import Derived.Test.YthocpkmlfkbiaaaTmMath
namespace Go.Proofs.Ythocpkmlfkbiaaa.Tm
open Go.RowKit Go.Proofs.Ythocpkmlfkbiaaa.Rl
set_option linter.unusedVariables false

theorem val_form (r : Nat) : ∃ n L, val r = n * 2 ^ L ∧ n < 9007199254740992 := by
  by_cases c : r < 4503599627370496
  · exact ⟨r, 0, by rw [val_small c]; simp, by omega⟩
  · exact ⟨_, _, val_big (by omega), by omega⟩
theorem rg_pos {x : Nat} (h : x < 9223372036854775808) : rg x = x := by unfold rg; omega
theorem ng_pos {x : Nat} (h : x < 9223372036854775808) : ng x = false := by unfold ng; rw [decide_eq_false (by omega)]
theorem read_pos (x : Nat) (h : x < 9218868437227405312) : ∃ (m e : Nat), Ieee.double.read x = .number false m (-1074 + (e : Int)) ∧ m * 2 ^ e = val x := by
  obtain ⟨m, e, h1, v1⟩ := read_num x (by omega) (by rw [rg_pos (by omega)]; exact h)
  rw [rg_pos (by omega)] at v1
  rw [ng_pos (by omega)] at h1
  exact ⟨m, e, h1, v1⟩

theorem mul_pow (x k : Nat) (hx : x < 18446744073709551616) (h : rg x ≤ 9218868437227405312) (hk : k < 60) :
    ∃ p, floatBits .mul .f64 x (fi (2 ^ k)) = some (Ieee.double.word (ng x) p) ∧ p ≤ 9218868437227405312 ∧ val p = min (val (rg x) * 2 ^ k) (val 9218868437227405312) := by
  have kp : (2 : Nat) ^ k ≤ 2 ^ 59 := Nat.pow_le_pow_right (by decide) (by omega)
  have ff := fi_fin (2 ^ k) (by omega)
  obtain ⟨n, f, h2, v2⟩ := read_pos (fi (2 ^ k)) ff
  rw [fi_val (2 ^ k) (by omega) (.inr ⟨k, 1, by omega, by decide⟩)] at v2
  have n0 : n ≠ 0 := by
    intro z
    rw [z, Nat.zero_mul] at v2
    have := Nat.mul_pos (Nat.two_pow_pos k) one_pos
    omega
  by_cases c : rg x = 9218868437227405312
  · refine ⟨9218868437227405312, ?_, by decide, ?_⟩
    · show ((Ieee.double.read x).product (Ieee.double.read (fi (2 ^ k)))).map Ieee.double.write = _
      rw [h2, read_inf x hx c]
      unfold Ieee.Datum.product
      simp only [if_neg n0, Option.map_some, Bool.xor_false]
      have e3 : Ieee.double.infRung = 9218868437227405312 := by decide
      unfold Ieee.Format.write
      rw [← e3]
    · rw [c]
      have := Nat.le_mul_of_pos_right (val 9218868437227405312) (Nat.two_pow_pos k)
      omega
  · obtain ⟨m, e, h1, v1⟩ := read_num x hx (by omega)
    have hA : At (m * n) (-1074 + (e : Int) + (-1074 + (f : Int))) (val (rg x) * 2 ^ k) 1 := by
      unfold At
      refine Nat.eq_of_mul_eq_mul_right one_pos ?_
      have hP : (-1074 + (e : Int) + (-1074 + (f : Int)) + 1074).toNat + kk = e + f + (-(-1074 + (e : Int) + (-1074 + (f : Int)) + 1074)).toNat := by rw [kk_eq]; omega
      generalize (-1074 + (e : Int) + (-1074 + (f : Int)) + 1074).toNat = P at *
      generalize (-(-1074 + (e : Int) + (-1074 + (f : Int)) + 1074)).toNat = M at *
      calc m * n * 2 ^ P * 1 * one = m * n * (2 ^ P * 2 ^ kk) := by rw [one_pow, Nat.mul_one, Nat.mul_assoc]
        _ = m * n * (2 ^ e * 2 ^ f * 2 ^ M) := by rw [← Nat.pow_add, hP, Nat.pow_add, Nat.pow_add]
        _ = (m * 2 ^ e) * 2 ^ M * (n * 2 ^ f) := by simp only [Nat.mul_assoc, Nat.mul_comm, Nat.mul_left_comm]
        _ = val (rg x) * 2 ^ k * 2 ^ M * one := by rw [v1, v2]; simp only [Nat.mul_assoc, Nat.mul_comm, Nat.mul_left_comm]
    obtain ⟨p, p1, p2, p3⟩ := nearest_near (ng x) (m * n) _ _ 1 (by decide) hA
    obtain ⟨a, L, ea, la⟩ := val_form (rg x)
    refine ⟨p, ?_, p2, ?_⟩
    · show ((Ieee.double.read x).product (Ieee.double.read (fi (2 ^ k)))).map Ieee.double.write = _
      rw [h1, h2]
      unfold Ieee.Datum.product
      simp only [Option.map_some, Bool.xor_false]
      rw [← p1]
      rfl
    · rw [ea, Nat.mul_assoc, ← Nat.pow_add] at p3 ⊢
      exact near_worth la p2 p3

theorem sub_near (s a : Nat) (hs : s < 9218868437227405312) (h : a ≤ s) :
    ∃ d, floatBits .sub .f64 s a = some d ∧ d ≤ s ∧ Near d (val s - val a) 1 := by
  obtain ⟨m, e, h1, v1⟩ := read_pos s hs
  obtain ⟨n, f, h2, v2⟩ := read_pos a (by omega)
  have vl := val_le h
  have c : min (-1074 + (e : Int)) (-1074 + (f : Int)) = -1074 + ((min e f : Nat) : Int) := by omega
  have p1 : m * 2 ^ (e - min e f) * 2 ^ (min e f) = val s := by rw [Nat.mul_assoc, ← Nat.pow_add, Nat.sub_add_cancel (Nat.min_le_left e f), v1]
  have p2 : n * 2 ^ (f - min e f) * 2 ^ (min e f) = val a := by rw [Nat.mul_assoc, ← Nat.pow_add, Nat.sub_add_cancel (Nat.min_le_right e f), v2]
  have le : n * 2 ^ (f - min e f) ≤ m * 2 ^ (e - min e f) := by
    refine Nat.le_of_mul_le_mul_right ?_ (Nat.two_pow_pos (min e f))
    rw [p1, p2]; exact vl
  have key : floatBits .sub .f64 s a = some (Ieee.double.nearest false (m * 2 ^ (e - min e f) - n * 2 ^ (f - min e f)) (-1074 + ((min e f : Nat) : Int))) := by
    show ((Ieee.double.read s).sum (Ieee.double.read a).opposite).map Ieee.double.write = _
    rw [h1, h2]
    unfold Ieee.Datum.opposite Ieee.Datum.sum
    simp only [signed_sv]
    rw [c, show (-1074 + (e : Int) - (-1074 + ((min e f : Nat) : Int))).toNat = e - min e f by omega, show (-1074 + (f : Int) - (-1074 + ((min e f : Nat) : Int))).toNat = f - min e f by omega]
    generalize m * 2 ^ (e - min e f) = A at *
    generalize n * 2 ^ (f - min e f) = B at *
    have t : sv false A + sv (!false) B = ((A - B : Nat) : Int) := by unfold sv; simp only [Bool.not_false, if_true, Bool.false_eq_true, if_false]; omega
    rw [t]
    have t2 : (if ((A - B : Nat) : Int) = 0 then false && !false else decide (((A - B : Nat) : Int) < 0)) = false := by
      split
      · rfl
      · rw [decide_eq_false (by omega)]
    rw [t2]
    rfl
  have hA : At (m * 2 ^ (e - min e f) - n * 2 ^ (f - min e f)) (-1074 + ((min e f : Nat) : Int)) (val s - val a) 1 := by
    unfold At
    rw [show (-1074 + ((min e f : Nat) : Int) + 1074).toNat = min e f by omega, show (-(-1074 + ((min e f : Nat) : Int) + 1074)).toNat = 0 by omega, Nat.sub_mul, p1, p2]
  obtain ⟨d, d1, d2, d3⟩ := nearest_near false _ _ _ 1 (by decide) hA
  rw [d1] at key
  refine ⟨d, key, ?_, d3⟩
  exact near_mono d3 (near_val s) (by decide) (by decide) d2 (by omega)

/-- the steps of a division, rounded as the exact quotient is -/
theorem sticky {Q R n D st : Nat} (hn : 0 < n) (hD : D = Q * n + R) (hR : R < n) (hst : st = (R != 0).toNat) (G : Nat) (kept : Nat)
    (lo : ∀ k, k + 1 = kept → (2 * k + 1) * (4 * G) ≤ 2 * (2 * Q + st) ∧ ((2 * k + 1) * (4 * G) = 2 * (2 * Q + st) → kept % 2 = 0))
    (hi : 2 * (2 * Q + st) ≤ (2 * kept + 1) * (4 * G) ∧ (2 * (2 * Q + st) = (2 * kept + 1) * (4 * G) → kept % 2 = 0)) :
    (∀ k, k + 1 = kept → (2 * k + 1) * (4 * G) * n ≤ 2 * (2 * D) ∧ ((2 * k + 1) * (4 * G) * n = 2 * (2 * D) → kept % 2 = 0)) ∧
    (2 * (2 * D) ≤ (2 * kept + 1) * (4 * G) * n ∧ (2 * (2 * D) = (2 * kept + 1) * (4 * G) * n → kept % 2 = 0)) := by
  have hs : (R = 0 ∧ st = 0) ∨ (R ≠ 0 ∧ st = 1) := by
    by_cases c : R = 0
    · exact .inl ⟨c, by rw [hst, c]; rfl⟩
    · refine .inr ⟨c, ?_⟩
      have : (R != 0) = true := by simpa using c
      rw [hst, this]; rfl
  have sh : ∀ t : Nat, t * (4 * G) = 4 * (t * G) := fun t => by rw [← Nat.mul_assoc, Nat.mul_comm t 4, Nat.mul_assoc]
  have sh2 : ∀ t : Nat, t * (4 * G) * n = 4 * (t * G * n) := fun t => by rw [sh, Nat.mul_assoc]
  constructor
  · intro k hk
    obtain ⟨l1, l2⟩ := lo k hk
    rw [sh] at l1 l2
    rw [sh2]
    generalize (2 * k + 1) * G = Y at *
    have y1 : Y ≤ Q := by omega
    have y2 := Nat.mul_le_mul_right n y1
    constructor
    · omega
    · intro e
      have : R = 0 := by omega
      have : Y * n = Q * n := by omega
      have := Nat.eq_of_mul_eq_mul_right hn this
      exact l2 (by omega)
  · obtain ⟨l1, l2⟩ := hi
    rw [sh] at l1 l2
    rw [sh2]
    generalize (2 * kept + 1) * G = Y at *
    rcases hs with ⟨c1, c2⟩ | ⟨c1, c2⟩
    · have y1 : Q ≤ Y := by omega
      have y2 := Nat.mul_le_mul_right n y1
      constructor
      · omega
      · intro e
        have : Q * n = Y * n := by omega
        have := Nat.eq_of_mul_eq_mul_right hn this
        exact l2 (by omega)
    · have y1 : Q + 1 ≤ Y := by omega
      have y2 := Nat.mul_le_mul_right n y1
      rw [Nat.add_mul] at y2
      constructor
      · omega
      · intro; omega

theorem div_near (d s : Nat) (hd : d < 9218868437227405312) (hs : s < 9218868437227405312) (d0 : d ≠ 0) (s0 : s ≠ 0) :
    ∃ g, floatBits .quo .f64 d s = some g ∧ g ≤ 9218868437227405312 ∧ Near g (val d * one) (val s) := by
  obtain ⟨m, e, h1, v1⟩ := read_pos d hd
  obtain ⟨n, f, h2, v2⟩ := read_pos s hs
  have n0 : n ≠ 0 := by
    intro z
    rw [z, Nat.zero_mul] at v2
    have := val_pos s0
    omega
  have m0 : m ≠ 0 := by
    intro z
    rw [z, Nat.zero_mul] at v1
    have := val_pos d0
    omega
  obtain ⟨more, hmore⟩ : ∃ more, 54 + n.log2 - m.log2 = more := ⟨_, rfl⟩
  obtain ⟨D, hD⟩ : ∃ D, m * 2 ^ more = D := ⟨_, rfl⟩
  obtain ⟨Q, hQ⟩ : ∃ Q, D / n = Q := ⟨_, rfl⟩
  obtain ⟨R, hR⟩ : ∃ R, D % n = R := ⟨_, rfl⟩
  obtain ⟨st, hst⟩ : ∃ st, (R != 0).toNat = st := ⟨_, rfl⟩
  have key : floatBits .quo .f64 d s = some (Ieee.double.nearest false (2 * Q + st) (-1074 + (e : Int) - (-1074 + (f : Int)) - (more : Int) - 1)) := by
    show ((Ieee.double.read d).quotient (52 + 2) (Ieee.double.read s)).map Ieee.double.write = _
    rw [h1, h2]
    unfold Ieee.Datum.quotient
    simp only [if_neg n0, Option.map_some, Bool.xor_false]
    rw [hmore, Nat.shiftLeft_eq, hD, hQ, hR, hst]
    rfl
  have nn : 0 < n := by omega
  have lm := Nat.log2_self_le m0
  have ln : n < 2 ^ (n.log2 + 1) := Nat.lt_log2_self
  have dl : 2 ^ (54 + n.log2) ≤ D := by
    rw [← hD]
    refine Nat.le_trans ?_ (Nat.mul_le_mul_right _ lm)
    rw [← Nat.pow_add]
    exact Nat.pow_le_pow_right (by decide) (by omega)
  have q53 : 9007199254740992 ≤ Q := by
    rw [← hQ, Nat.le_div_iff_mul_le nn]
    refine Nat.le_trans ?_ dl
    rw [show 54 + n.log2 = 53 + (n.log2 + 1) by omega, Nat.pow_add, show (2 : Nat) ^ 53 = 9007199254740992 by decide]
    exact Nat.mul_le_mul_left _ (Nat.le_of_lt ln)
  have g0 : 2 * Q + st ≠ 0 := by omega
  have gl : 54 ≤ (2 * Q + st).log2 := by
    rw [Nat.le_log2 g0]
    omega
  obtain ⟨L, up, drop, kept, s1, s2, s3, s4, s5, s6⟩ := nearest_shape false (2 * Q + st) (-1074 + (e : Int) - (-1074 + (f : Int)) - (more : Int) - 1) g0
  have u0 : up = 0 := by omega
  subst u0
  rw [Nat.pow_zero, Nat.mul_one] at s2
  refine ⟨_, by rw [key, s1, word_false], Nat.min_le_right _ _, ?_⟩
  obtain ⟨c1, c2, c3, c4⟩ := cut_near false _ _ _ s2
  obtain ⟨dr, hdr⟩ : ∃ dr, drop = dr + 2 := ⟨drop - 2, by omega⟩
  have eG : 2 ^ drop = 4 * 2 ^ dr := by rw [hdr, Nat.pow_add]; omega
  have hDv : D = Q * n + R := by
    have := Nat.div_add_mod D n
    rw [hQ, hR, Nat.mul_comm] at this
    omega
  have hRn : R < n := by rw [← hR]; exact Nat.mod_lt _ nn
  have lo2 := Nat.log2_self_le g0
  have hi2 : 2 * Q + st < 2 ^ ((2 * Q + st).log2 + 1) := Nat.lt_log2_self
  have n1 : 2 * Q + st < 9007199254740992 * 2 ^ drop := by
    refine Nat.lt_of_lt_of_le hi2 ?_
    rw [show (9007199254740992 : Nat) = 2 ^ 53 by decide, ← Nat.pow_add]
    exact Nat.pow_le_pow_right (by decide) (by omega)
  have n2 : L ≠ 0 → 4503599627370496 * 2 ^ drop ≤ 2 * Q + st := by
    intro hL
    refine Nat.le_trans ?_ lo2
    rw [show (4503599627370496 : Nat) = 2 ^ 52 by decide, ← Nat.pow_add]
    exact Nat.pow_le_pow_right (by decide) (by omega)
  have st1 : st ≤ 1 := by rw [← hst]; cases (R != 0) <;> decide
  rw [eG] at c1 c2
  obtain ⟨t1, t2⟩ := sticky nn hDv hRn hst.symm (2 ^ dr) kept c1 c2
  rw [← eG] at t1 t2
  refine near_made (n := 2 * Q + st) (drop := drop) (X := 2 * D) (Y := n) (val_pos s0) nn n1 ?_ c3 c4 t1 t2 ?_ ?_
  · by_cases z : L = 0
    · exact .inr z
    · exact .inl (n2 z)
  · intro hL
    have a := n2 hL
    rw [eG] at a ⊢
    have b : 4503599627370496 * (2 * 2 ^ dr) ≤ Q := by omega
    have c := Nat.mul_le_mul_right n b
    have e4 : 4503599627370496 * (4 * 2 ^ dr) * n = 2 * (4503599627370496 * (2 * 2 ^ dr) * n) := by
      rw [← Nat.mul_assoc 2]; congr 1; omega
    rw [e4]
    omega
  · have hP : e + kk + drop = 1 + more + L + f := by rw [kk_eq]; omega
    calc val d * one * (2 ^ drop * n) = m * n * (2 ^ e * 2 ^ kk * 2 ^ drop) := by rw [← v1, one_pow]; simp only [Nat.mul_assoc, Nat.mul_comm, Nat.mul_left_comm]
      _ = m * n * (2 ^ 1 * 2 ^ more * 2 ^ L * 2 ^ f) := by rw [← Nat.pow_add, ← Nat.pow_add, hP, Nat.pow_add, Nat.pow_add, Nat.pow_add]
      _ = 2 * D * (2 ^ L * val s) := by rw [← v2, ← hD, Nat.pow_one]; simp only [Nat.mul_assoc, Nat.mul_comm, Nat.mul_left_comm]
end Go.Proofs.Ythocpkmlfkbiaaa.Tm
