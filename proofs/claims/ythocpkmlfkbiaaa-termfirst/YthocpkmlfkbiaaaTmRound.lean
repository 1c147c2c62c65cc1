/-
  Rounding to the nearest number of the format, as a relation between a rung and an exact fraction: it is monotone, and exact where the fraction is a number of the format.
-/
import Derived.Test.YthocpkmlfkbiaaaRlArith
namespace Go.Proofs.Ythocpkmlfkbiaaa.Tm
open Go.RowKit Go.Proofs.Ythocpkmlfkbiaaa.Rl
set_option linter.unusedVariables false

theorem val_le {r q : Nat} (h : r ≤ q) : val r ≤ val q := by
  rcases Nat.lt_or_eq_of_le h with a | a
  · exact Nat.le_of_lt (val_lt a)
  · rw [a]; exact Nat.le_refl _

/-- the rung r is the nearest one to A / B (in units of the least place); between two the even one -/
def Near (r A B : Nat) : Prop :=
  (∀ q, q + 1 = r → (val q + val r) * B ≤ 2 * A ∧ ((val q + val r) * B = 2 * A → r % 2 = 0)) ∧
  (r < 9218868437227405312 → 2 * A ≤ (val r + val (r + 1)) * B ∧ (2 * A = (val r + val (r + 1)) * B → r % 2 = 0))

theorem near_mono {r q A B C D : Nat} (hr : Near r A B) (hq : Near q C D) (hB : 0 < B) (hD : 0 < D) (hi : r ≤ 9218868437227405312) (h : A * D ≤ C * B) : r ≤ q := by
  rcases Nat.lt_or_ge q r with c | c
  · exfalso
    obtain ⟨p, rfl⟩ : ∃ p, r = p + 1 := ⟨r - 1, by omega⟩
    obtain ⟨a1, a2⟩ := hr.1 p rfl
    obtain ⟨b1, b2⟩ := hq.2 (by omega)
    have v1 : val q ≤ val p := val_le (by omega)
    have v2 : val (q + 1) ≤ val (p + 1) := val_le (by omega)
    have e1 : (val p + val (p + 1)) * B * D ≤ 2 * A * D := Nat.mul_le_mul_right _ a1
    have e2 : 2 * C * B ≤ (val q + val (q + 1)) * D * B := Nat.mul_le_mul_right _ b1
    have e3 : 2 * A * D ≤ 2 * C * B := by rw [Nat.mul_assoc, Nat.mul_assoc]; exact Nat.mul_le_mul_left _ h
    have e4 : (val p + val (p + 1)) * (B * D) ≤ (val q + val (q + 1)) * (B * D) := by
      rw [← Nat.mul_assoc, Nat.mul_comm B D, ← Nat.mul_assoc]; omega
    have e5 := Nat.le_of_mul_le_mul_right e4 (Nat.mul_pos hB hD)
    have e6 : val q = val p := by omega
    have e7 : q = p := val_inj.1 e6
    subst e7
    have e8 : (val q + val (q + 1)) * B * D = (val q + val (q + 1)) * D * B := by rw [Nat.mul_assoc, Nat.mul_comm B D, ← Nat.mul_assoc]
    have t1 : (val q + val (q + 1)) * B = 2 * A := Nat.eq_of_mul_eq_mul_right hD (by omega)
    have t2 : 2 * C = (val q + val (q + 1)) * D := Nat.eq_of_mul_eq_mul_right hB (by omega)
    have := a2 t1
    have := b2 t2
    omega
  · exact c
theorem near_val (r : Nat) : Near r (val r) 1 := by
  refine ⟨fun q hq => ?_, fun _ => ?_⟩
  · have := val_lt (show q < r by omega)
    constructor
    · omega
    · intro; omega
  · have := val_lt (show r < r + 1 by omega)
    constructor
    · omega
    · intro; omega
theorem near_exact {r q A B : Nat} (hr : Near r A B) (hB : 0 < B) (hi : r ≤ 9218868437227405312) (hq : q ≤ 9218868437227405312) (h : A = val q * B) : r = q := by
  have a := near_mono hr (near_val q) hB (by decide) hi (by rw [h]; omega)
  have b := near_mono (near_val q) hr (by decide) hB hq (by rw [h]; omega)
  omega

theorem val_lk {L kept : Nat} (h : 4503599627370496 ≤ kept ∨ L = 0) (hk : kept ≤ 9007199254740992) : val (L * 4503599627370496 + kept) = kept * 2 ^ L := by
  by_cases c : kept = 9007199254740992
  · subst c
    rw [val_big (by omega), show (L * 4503599627370496 + 9007199254740992) % 4503599627370496 = 0 by omega, show (L * 4503599627370496 + 9007199254740992) / 4503599627370496 - 1 = L + 1 by omega, Nat.pow_succ]
    omega
  · by_cases d : kept < 4503599627370496
    · have : L = 0 := by omega
      subst this
      rw [val_small (by omega)]; simp
    · rw [val_big (by omega), show (L * 4503599627370496 + kept) % 4503599627370496 = kept - 4503599627370496 by omega, show (L * 4503599627370496 + kept) / 4503599627370496 - 1 = L by omega, show 4503599627370496 + (kept - 4503599627370496) = kept by omega]
theorem val_up {L kept : Nat} (h : 4503599627370496 ≤ kept ∨ L = 0) (hk : kept ≤ 9007199254740992) : (kept + 1) * 2 ^ L ≤ val (L * 4503599627370496 + kept + 1) := by
  by_cases c : kept = 9007199254740992
  · subst c
    have := val_lk (L := L + 1) (kept := 4503599627370497) (.inl (by decide)) (by decide)
    rw [show (L + 1) * 4503599627370496 + 4503599627370497 = L * 4503599627370496 + 9007199254740992 + 1 by omega] at this
    rw [this, Nat.pow_succ]
    omega
  · have := val_lk (L := L) (kept := kept + 1) (by omega) (by omega)
    rw [Nat.add_assoc, this]
    exact Nat.le_refl _

theorem near_core {L kept A B : Nat} (hB : 0 < B) (h : 4503599627370496 ≤ kept ∨ L = 0) (hk : kept ≤ 9007199254740992)
    (lo : ∀ k, k + 1 = kept → (2 * k + 1) * (2 ^ L * B) ≤ 2 * A ∧ ((2 * k + 1) * (2 ^ L * B) = 2 * A → kept % 2 = 0))
    (hi : 2 * A ≤ (2 * kept + 1) * (2 ^ L * B) ∧ (2 * A = (2 * kept + 1) * (2 ^ L * B) → kept % 2 = 0))
    (hb : L ≠ 0 → 4503599627370496 * (2 ^ L * B) ≤ A) : Near (min (L * 4503599627370496 + kept) 9218868437227405312) A B := by
  have ev : val (L * 4503599627370496 + kept) = kept * 2 ^ L := val_lk h hk
  have par : (L * 4503599627370496 + kept) % 2 = kept % 2 := by omega
  have main : Near (L * 4503599627370496 + kept) A B := by
    refine ⟨fun q hq => ?_, fun _ => ?_⟩
    · rw [par]
      by_cases c : kept = 4503599627370496 ∧ L ≠ 0
      · obtain ⟨c1, c2⟩ := c
        have b := hb c2
        have v := val_lt (show q < L * 4503599627370496 + kept by omega)
        have e : val (L * 4503599627370496 + kept) * B ≤ A := by rw [ev, c1, Nat.mul_assoc]; exact b
        have v2 : val q * B < val (L * 4503599627370496 + kept) * B := Nat.mul_lt_mul_of_pos_right v hB
        rw [Nat.add_mul]
        constructor
        · omega
        · intro; omega
      · by_cases z : kept = 0
        · exfalso; omega
        · have e := val_lk (L := L) (kept := kept - 1) (by omega) (by omega)
          rw [show L * 4503599627370496 + (kept - 1) = q by omega] at e
          obtain ⟨k, rfl⟩ : ∃ k, kept = k + 1 := ⟨kept - 1, by omega⟩
          have l := lo k rfl
          have s : (val q + val (L * 4503599627370496 + (k + 1))) * B = (2 * k + 1) * (2 ^ L * B) := by
            rw [e, ev, ← Nat.add_mul, ← Nat.mul_assoc]; congr 2; omega
          rw [s]; exact l
    · rw [par]
      have u := val_up h hk
      have s : (2 * kept + 1) * (2 ^ L * B) ≤ (val (L * 4503599627370496 + kept) + val (L * 4503599627370496 + kept + 1)) * B := by
        rw [← Nat.mul_assoc]
        refine Nat.mul_le_mul_right _ ?_
        rw [ev, show 2 * kept + 1 = kept + (kept + 1) by omega, Nat.add_mul]
        omega
      constructor
      · omega
      · intro e; exact hi.2 (by omega)
  rcases Nat.lt_or_ge 9218868437227405312 (L * 4503599627370496 + kept) with c | c
  · rw [Nat.min_eq_right (Nat.le_of_lt c)]
    refine ⟨fun q hq => ?_, fun a => absurd a (by omega)⟩
    obtain ⟨p, hp⟩ : ∃ p, p + 1 = L * 4503599627370496 + kept := ⟨L * 4503599627370496 + kept - 1, by omega⟩
    have m := (main.1 p hp).1
    have v1 := val_lt (show q < p by omega)
    have v2 := val_lt c
    have s : (val q + val 9218868437227405312) * B < (val p + val (L * 4503599627370496 + kept)) * B := Nat.mul_lt_mul_of_pos_right (by omega) hB
    constructor
    · omega
    · intro; omega
  · rw [Nat.min_eq_left c]; exact main

theorem cut_even (neg : Bool) (n drop : Nat) : Ieee.Toward.even.cut neg n drop = n / 2 ^ drop + (decide (2 ^ drop < 2 * (n % 2 ^ drop)) || (2 ^ drop == 2 * (n % 2 ^ drop) && n / 2 ^ drop % 2 == 1)).toNat := by
  unfold Ieee.Toward.cut
  rw [Nat.one_shiftLeft]
  dsimp only
  by_cases c : drop ≤ n.log2 + 2
  · rw [Nat.min_eq_left c]
  · rw [Nat.min_eq_right (by omega)]
    have hn : n < 2 ^ (n.log2 + 1) := Nat.lt_log2_self
    have e1 : 2 ^ (n.log2 + 2) = 2 * 2 ^ (n.log2 + 1) := by rw [Nat.pow_succ 2 (n.log2 + 1)]; omega
    have e2 : 2 ^ (n.log2 + 2) ≤ 2 ^ drop := Nat.pow_le_pow_right (by decide) (by omega)
    rw [Nat.div_eq_of_lt (show n < 2 ^ (n.log2 + 2) by omega), Nat.mod_eq_of_lt (show n < 2 ^ (n.log2 + 2) by omega), Nat.div_eq_of_lt (show n < 2 ^ drop by omega), Nat.mod_eq_of_lt (show n < 2 ^ drop by omega)]
    rw [decide_eq_false (by omega), decide_eq_false (by omega), beq_eq_false_iff_ne.2 (by omega)]
    simp
/-- what is cut lies within half a unit, between two the even one -/
theorem cut_near (neg : Bool) (n drop kept : Nat) (h : Ieee.Toward.even.cut neg n drop = kept) :
    (∀ k, k + 1 = kept → (2 * k + 1) * 2 ^ drop ≤ 2 * n ∧ ((2 * k + 1) * 2 ^ drop = 2 * n → kept % 2 = 0)) ∧
    (2 * n ≤ (2 * kept + 1) * 2 ^ drop ∧ (2 * n = (2 * kept + 1) * 2 ^ drop → kept % 2 = 0)) ∧ n / 2 ^ drop ≤ kept ∧ kept ≤ n / 2 ^ drop + 1 := by
  rw [cut_even] at h
  have hG : 0 < 2 ^ drop := Nat.two_pow_pos _
  have hd := Nat.div_add_mod n (2 ^ drop)
  have hm := Nat.mod_lt n hG
  generalize 2 ^ drop = G at *
  generalize n / G = low at *
  generalize n % G = rest at *
  have e1 : G * low = low * G := Nat.mul_comm _ _
  rw [e1] at hd
  by_cases c : G < 2 * rest ∨ (G = 2 * rest ∧ low % 2 = 1)
  · have : (decide (G < 2 * rest) || (G == 2 * rest && low % 2 == 1)) = true := by simpa using c
    rw [this] at h
    have h : low + 1 = kept := h
    subst h
    refine ⟨fun k hk => ?_, ?_, by omega, by omega⟩
    · have : k = low := by omega
      subst this
      rw [Nat.add_mul, Nat.mul_assoc]
      constructor
      · omega
      · intro; omega
    · rw [show 2 * (low + 1) + 1 = 2 * low + 3 by omega, Nat.add_mul, Nat.mul_assoc]
      constructor
      · omega
      · intro; omega
  · have : (decide (G < 2 * rest) || (G == 2 * rest && low % 2 == 1)) = false := by
      rw [Bool.eq_false_iff]; intro e; exact c (by simpa using e)
    rw [this] at h
    have h : low + 0 = kept := h
    rw [Nat.add_zero] at h
    subst h
    refine ⟨fun k hk => ?_, ?_, by omega, by omega⟩
    · have hk : low = k + 1 := by omega
      subst hk
      rw [Nat.add_mul] at hd
      rw [Nat.add_mul, Nat.mul_assoc]
      constructor
      · omega
      · intro; omega
    · rw [Nat.add_mul, Nat.mul_assoc]
      constructor
      · omega
      · intro; omega

/-- the number m * 2 ^ place is A / B units of the least place -/
def At (m : Nat) (place : Int) (A B : Nat) : Prop := m * 2 ^ (place + 1074).toNat * B = A * 2 ^ (-(place + 1074)).toNat

/-- a number that is cut at the place L - 1074 behind 'drop' places, X / Y of which n is the whole or the nearest within what matters -/
theorem near_made {L kept n drop X Y A B : Nat} (hB : 0 < B) (hY : 0 < Y) (n1 : n < 9007199254740992 * 2 ^ drop) (n2 : 4503599627370496 * 2 ^ drop ≤ n ∨ L = 0)
    (q1 : n / 2 ^ drop ≤ kept) (q2 : kept ≤ n / 2 ^ drop + 1)
    (lo : ∀ k, k + 1 = kept → (2 * k + 1) * 2 ^ drop * Y ≤ 2 * X ∧ ((2 * k + 1) * 2 ^ drop * Y = 2 * X → kept % 2 = 0))
    (hi : 2 * X ≤ (2 * kept + 1) * 2 ^ drop * Y ∧ (2 * X = (2 * kept + 1) * 2 ^ drop * Y → kept % 2 = 0))
    (hb : L ≠ 0 → 4503599627370496 * 2 ^ drop * Y ≤ X) (e : A * (2 ^ drop * Y) = X * (2 ^ L * B)) :
    Near (min (L * 4503599627370496 + kept) 9218868437227405312) A B := by
  have hG : 0 < 2 ^ drop := Nat.two_pow_pos _
  have hL : 0 < 2 ^ L * B := Nat.mul_pos (Nat.two_pow_pos _) hB
  have hGY : 0 < 2 ^ drop * Y := Nat.mul_pos hG hY
  have u : n / 2 ^ drop < 9007199254740992 := by rw [Nat.div_lt_iff_lt_mul hG]; exact n1
  have sw : ∀ t : Nat, t * (2 ^ L * B) * (2 ^ drop * Y) = t * 2 ^ drop * Y * (2 ^ L * B) := by
    intro t; simp only [Nat.mul_assoc, Nat.mul_comm, Nat.mul_left_comm]
  have e2 : 2 * A * (2 ^ drop * Y) = 2 * X * (2 ^ L * B) := by rw [Nat.mul_assoc, e, Nat.mul_assoc]
  refine near_core hB ?_ (by omega) ?_ ?_ ?_
  · rcases n2 with a | a
    · left
      have : 4503599627370496 ≤ n / 2 ^ drop := by rw [Nat.le_div_iff_mul_le hG]; exact a
      omega
    · exact .inr a
  · intro k hk
    obtain ⟨l1, l2⟩ := lo k hk
    constructor
    · refine Nat.le_of_mul_le_mul_right ?_ hGY
      rw [sw, e2]; exact Nat.mul_le_mul_right _ l1
    · intro h
      refine l2 (Nat.eq_of_mul_eq_mul_right hL ?_)
      rw [← sw, h, e2]
  · constructor
    · refine Nat.le_of_mul_le_mul_right ?_ hGY
      rw [sw, e2]; exact Nat.mul_le_mul_right _ hi.1
    · intro h
      refine hi.2 (Nat.eq_of_mul_eq_mul_right hL ?_)
      rw [← sw, ← h, e2]
  · intro hn
    refine Nat.le_of_mul_le_mul_right ?_ hGY
    rw [sw, e]; exact Nat.mul_le_mul_right _ (hb hn)

theorem nearest_shape (neg : Bool) (mag : Nat) (place : Int) (hm : mag ≠ 0) :
    ∃ (L up drop kept : Nat), Ieee.double.nearest neg mag place = Ieee.double.word neg (min (L * 4503599627370496 + kept) 9218868437227405312) ∧ Ieee.Toward.even.cut neg (mag * 2 ^ up) drop = kept ∧
      place - up + drop = (L : Int) - 1074 ∧ (mag.log2 + up ≤ 52 + drop) ∧ (mag.log2 + up = 52 + drop ∨ L = 0) ∧ (up = 0 ∨ drop = 0) := by
  have e2 : Ieee.double.binade = 4503599627370496 := by decide
  have e3 : Ieee.double.infRung = 9218868437227405312 := by decide
  have e4 : Ieee.double.leastPlace = -1074 := by decide
  have e5 : Ieee.double.fractionBits = 52 := by decide
  unfold Ieee.Format.nearest
  rw [if_neg hm, e2, e3, e4, e5]
  dsimp only
  rw [Nat.shiftLeft_eq]
  refine ⟨_, _, _, _, rfl, rfl, ?_, ?_, ?_, ?_⟩ <;> omega
theorem nearest_near (neg : Bool) (mag : Nat) (place : Int) (A B : Nat) (hB : 0 < B) (h : At mag place A B) :
    ∃ r, Ieee.double.nearest neg mag place = Ieee.double.word neg r ∧ r ≤ 9218868437227405312 ∧ Near r A B := by
  by_cases hm : mag = 0
  · subst hm
    have e : A = 0 := by
      unfold At at h
      rw [Nat.zero_mul, Nat.zero_mul] at h
      rcases Nat.mul_eq_zero.1 h.symm with a | a
      · exact a
      · have := Nat.two_pow_pos (-(place + 1074)).toNat; omega
    subst e
    refine ⟨0, by unfold Ieee.Format.nearest; rw [if_pos rfl], by decide, fun q hq => by omega, fun _ => ⟨by omega, fun _ => by decide⟩⟩
  · obtain ⟨L, up, drop, kept, s1, s2, s3, s4, s5, s6⟩ := nearest_shape neg mag place hm
    refine ⟨_, s1, Nat.min_le_right _ _, ?_⟩
    obtain ⟨c1, c2, c3, c4⟩ := cut_near neg _ _ _ s2
    have lo := Nat.log2_self_le hm
    have hi : mag < 2 ^ (mag.log2 + 1) := Nat.lt_log2_self
    have n1 : mag * 2 ^ up < 9007199254740992 * 2 ^ drop := by
      refine Nat.lt_of_lt_of_le (Nat.mul_lt_mul_of_pos_right hi (Nat.two_pow_pos up)) ?_
      rw [show (9007199254740992 : Nat) = 2 ^ 53 by decide, ← Nat.pow_add, ← Nat.pow_add]
      exact Nat.pow_le_pow_right (by decide) (by omega)
    have n2 : L ≠ 0 → 4503599627370496 * 2 ^ drop ≤ mag * 2 ^ up := by
      intro hL
      refine Nat.le_trans ?_ (Nat.mul_le_mul_right (2 ^ up) lo)
      rw [show (4503599627370496 : Nat) = 2 ^ 52 by decide, ← Nat.pow_add, ← Nat.pow_add]
      exact Nat.pow_le_pow_right (by decide) (by omega)
    refine near_made (n := mag * 2 ^ up) (drop := drop) (X := mag * 2 ^ up) (Y := 1) hB (by decide) n1 ?_ c3 c4 ?_ ?_ ?_ ?_
    · by_cases z : L = 0
      · exact .inr z
      · exact .inl (n2 z)
    · simpa only [Nat.mul_one] using c1
    · simpa only [Nat.mul_one] using c2
    · simpa only [Nat.mul_one] using n2
    · unfold At at h
      rw [Nat.mul_one]
      have hM := Nat.two_pow_pos (-(place + 1074)).toNat
      refine Nat.eq_of_mul_eq_mul_right hM ?_
      have hP : (place + 1074).toNat + drop = (-(place + 1074)).toNat + up + L := by omega
      generalize (place + 1074).toNat = P at *
      generalize (-(place + 1074)).toNat = M at *
      calc A * 2 ^ drop * 2 ^ M = (A * 2 ^ M) * 2 ^ drop := by rw [Nat.mul_assoc, Nat.mul_comm (2 ^ drop), ← Nat.mul_assoc]
        _ = mag * 2 ^ P * B * 2 ^ drop := by rw [h]
        _ = mag * (2 ^ P * 2 ^ drop) * B := by rw [Nat.mul_assoc (mag * 2 ^ P), Nat.mul_comm B, ← Nat.mul_assoc, Nat.mul_assoc mag]
        _ = mag * (2 ^ M * 2 ^ up * 2 ^ L) * B := by rw [← Nat.pow_add, hP, Nat.pow_add, Nat.pow_add]
        _ = mag * 2 ^ up * (2 ^ L * B) * 2 ^ M := by simp only [Nat.mul_assoc, Nat.mul_comm, Nat.mul_left_comm]
end Go.Proofs.Ythocpkmlfkbiaaa.Tm
