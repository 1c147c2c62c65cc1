/-
  Numbers with a point, by their bits: where each stands in one row ('place'), and that the comparisons of the language are those of the places.
-/
import Derived.Test.YthocpkmlfkbiaaaRows
import Derived.WalkKit
import Derived.WalkLawsBesides
import Derived.Lib.Hide
namespace Go.Proofs.Ythocpkmlfkbiaaa.Rl
open Go.RowKit
set_option linter.unusedVariables false

/-- what a rung of the double format is worth, in units of the least place -/
def val (r : Nat) : Nat := if r < 4503599627370496 then r else (4503599627370496 + r % 4503599627370496) * 2 ^ (r / 4503599627370496 - 1)
def sv (s : Bool) (v : Nat) : Int := if s then -(v : Int) else v
def rg (x : Nat) : Nat := x % 9223372036854775808
def ng (x : Nat) : Bool := decide (9223372036854775808 ≤ x)

theorem val_small {r : Nat} (h : r < 4503599627370496) : val r = r := by unfold val; rw [if_pos h]
theorem val_zero : val 0 = 0 := val_small (by decide)
theorem val_big {r : Nat} (h : 4503599627370496 ≤ r) : val r = (4503599627370496 + r % 4503599627370496) * 2 ^ (r / 4503599627370496 - 1) := by unfold val; rw [if_neg (by omega)]
theorem val_lower {r : Nat} (h : 4503599627370496 ≤ r) : 4503599627370496 * 2 ^ (r / 4503599627370496 - 1) ≤ val r := by
  rw [val_big h]; exact Nat.mul_le_mul_right _ (by omega)
theorem val_upper (r : Nat) : val r < 4503599627370496 * 2 ^ (r / 4503599627370496) := by
  by_cases h : r < 4503599627370496
  · rw [val_small h, Nat.div_eq_of_lt h]; omega
  · rw [val_big (by omega)]
    have e : 2 ^ (r / 4503599627370496) = 2 * 2 ^ (r / 4503599627370496 - 1) := by
      rw [← Nat.pow_succ']; congr 1; omega
    rw [e, ← Nat.mul_assoc]
    exact Nat.mul_lt_mul_of_pos_right (by have := Nat.mod_lt r (show 0 < 4503599627370496 by decide); omega) (Nat.two_pow_pos _)

theorem val_lt {r q : Nat} (h : r < q) : val r < val q := by
  by_cases hq : q < 4503599627370496
  · rw [val_small hq, val_small (by omega)]; exact h
  · by_cases e : r / 4503599627370496 = q / 4503599627370496
    · have hr : 4503599627370496 ≤ r := by omega
      rw [val_big hr, val_big (by omega), e]
      exact Nat.mul_lt_mul_of_pos_right (by omega) (Nat.two_pow_pos _)
    · refine Nat.lt_of_lt_of_le (val_upper r) (Nat.le_trans ?_ (val_lower (by omega)))
      exact Nat.mul_le_mul_left _ (Nat.pow_le_pow_right (by decide) (by omega))
theorem val_iff {r q : Nat} : val r < val q ↔ r < q := by
  constructor
  · intro h
    rcases Nat.lt_trichotomy r q with a | a | a
    · exact a
    · subst a; omega
    · have := val_lt a; omega
  · exact val_lt
theorem val_inj {r q : Nat} : val r = val q ↔ r = q := by
  constructor
  · intro h
    rcases Nat.lt_trichotomy r q with a | a | a
    · have := val_lt a; omega
    · exact a
    · have := val_lt a; omega
  · intro h; rw [h]

theorem read_any (x : Nat) (hx : x < 18446744073709551616) : Ieee.double.read x =
    if rg x < 4503599627370496 then .number (ng x) (rg x) (-1074)
    else if rg x < 9218868437227405312 then .number (ng x) (4503599627370496 + rg x % 4503599627370496) (-1074 + ((rg x / 4503599627370496 - 1 : Nat) : Int))
    else if rg x = 9218868437227405312 then .infinity (ng x)
    else .nan (ng x) (rg x - 9218868437227405312) := by
  have e1 : Ieee.double.signWeight = 9223372036854775808 := by decide
  have e2 : Ieee.double.binade = 4503599627370496 := by decide
  have e3 : Ieee.double.infRung = 9218868437227405312 := by decide
  have e4 : Ieee.double.leastPlace = -1074 := by decide
  have e5 : (x / 9223372036854775808 % 2 == 1) = ng x := by
    unfold ng; by_cases h : 9223372036854775808 ≤ x
    · rw [decide_eq_true h, beq_iff_eq]; omega
    · rw [decide_eq_false h, beq_eq_false_iff_ne]; omega
  unfold Ieee.Format.read
  rw [e1, e2, e3, e4, e5]
  rfl

theorem read_num (x : Nat) (hx : x < 18446744073709551616) (h : rg x < 9218868437227405312) :
    ∃ (m e : Nat), Ieee.double.read x = .number (ng x) m (-1074 + (e : Int)) ∧ m * 2 ^ e = val (rg x) := by
  rw [read_any x hx]
  by_cases a : rg x < 4503599627370496
  · rw [if_pos a]; exact ⟨_, 0, rfl, by rw [val_small a]; simp⟩
  · rw [if_neg a, if_pos h]; exact ⟨_, _, rfl, by rw [val_big (by omega)]⟩
theorem read_inf (x : Nat) (hx : x < 18446744073709551616) (h : rg x = 9218868437227405312) : Ieee.double.read x = .infinity (ng x) := by
  rw [read_any x hx, if_neg (by omega), if_neg (by omega), if_pos h]
theorem read_nan (x : Nat) (hx : x < 18446744073709551616) (h : 9218868437227405312 < rg x) : ∃ f, Ieee.double.read x = .nan (ng x) f := by
  rw [read_any x hx, if_neg (by omega), if_neg (by omega), if_neg (by omega)]; exact ⟨_, rfl⟩

theorem signed_sv (s : Bool) (m k : Nat) : Ieee.signed s m k = sv s (m * 2 ^ k) := by
  unfold Ieee.signed sv; rw [Nat.shiftLeft_eq]
theorem sv_mul (s : Bool) (m k : Nat) : sv s (m * k) = sv s m * (k : Int) := by
  unfold sv; cases s <;> simp [Int.neg_mul]

theorem compare_int (a b : Int) : compare a b = if a < b then .lt else if a = b then .eq else .gt := by
  rfl
theorem compare_mul (a b : Int) (k : Nat) (hk : 0 < k) : compare (a * (k : Int)) (b * (k : Int)) = compare a b := by
  rw [compare_int, compare_int]
  have h0 : (0 : Int) < (k : Int) := by omega
  by_cases h : a < b
  · rw [if_pos h, if_pos (Int.mul_lt_mul_of_pos_right h h0)]
  · by_cases e : a = b
    · subst e; simp
    · have : b * (k : Int) < a * (k : Int) := Int.mul_lt_mul_of_pos_right (by omega) h0
      rw [if_neg h, if_neg e, if_neg (by omega), if_neg (by omega)]

theorem compare_sv (s t : Bool) (r q : Nat) : compare (sv s (val r)) (sv t (val q)) = compare (sv s r) (sv t q) := by
  have h1 := @val_iff r q
  have h2 := @val_iff q r
  have h3 := @val_inj r q
  have h4 := @val_inj r 0
  have h5 := @val_inj q 0
  rw [val_zero] at h4 h5
  rw [compare_int, compare_int]
  unfold sv
  generalize val r = vr at *
  generalize val q = vq at *
  cases s <;> cases t <;> simp only [if_true, Bool.false_eq_true, if_false] <;> (repeat' split) <;> first | rfl | omega

theorem order_num (x y : Nat) (hx : x < 18446744073709551616) (hy : y < 18446744073709551616) (a : rg x < 9218868437227405312) (b : rg y < 9218868437227405312) :
    Ieee.double.order x y = some (compare (sv (ng x) (rg x)) (sv (ng y) (rg y))) := by
  obtain ⟨m, e, h1, v1⟩ := read_num x hx a
  obtain ⟨n, f, h2, v2⟩ := read_num y hy b
  unfold Ieee.Format.order
  rw [h1, h2]
  unfold Ieee.Datum.order
  simp only [signed_sv]
  congr 1
  have c : min (-1074 + (e : Int)) (-1074 + (f : Int)) = -1074 + ((min e f : Nat) : Int) := by omega
  rw [c, show (-1074 + (e : Int) - (-1074 + ((min e f : Nat) : Int))).toNat = e - min e f by omega, show (-1074 + (f : Int) - (-1074 + ((min e f : Nat) : Int))).toNat = f - min e f by omega]
  rw [← compare_sv (ng x) (ng y) (rg x) (rg y), ← v1, ← v2]
  rw [← compare_mul _ _ (2 ^ min e f) (Nat.two_pow_pos _), ← sv_mul, ← sv_mul, Nat.mul_assoc, Nat.mul_assoc, ← Nat.pow_add, ← Nat.pow_add, Nat.sub_add_cancel (Nat.min_le_left e f), Nat.sub_add_cancel (Nat.min_le_right e f)]

/-- where a number stands -/
def place (x : Nat) : Int := if 9218868437227405312 < rg x then -9223372036854775808 else if 9223372036854775808 ≤ x then -(rg x : Int) - 1 else rg x
/-- the language's own order, which takes the zeros for one -/
def kp (p : Int) : Int := if p < 0 then p + 1 else p

theorem order_place (x y : Nat) (hx : x < 18446744073709551616) (hy : y < 18446744073709551616) :
    FloatKind.f64.format.order x y = if place x = -9223372036854775808 ∨ place y = -9223372036854775808 then none else some (compare (kp (place x)) (kp (place y))) := by
  have rx : rg x < 9223372036854775808 := Nat.mod_lt _ (by decide)
  have ry : rg y < 9223372036854775808 := Nat.mod_lt _ (by decide)
  show Ieee.double.order x y = _
  by_cases nx : 9218868437227405312 < rg x
  · have e : place x = -9223372036854775808 := by unfold place; rw [if_pos nx]
    rw [if_pos (Or.inl e)]
    obtain ⟨f, hf⟩ := read_nan x hx nx
    unfold Ieee.Format.order; rw [hf]; unfold Ieee.Datum.order; rfl
  · by_cases ny : 9218868437227405312 < rg y
    · have e : place y = -9223372036854775808 := by unfold place; rw [if_pos ny]
      rw [if_pos (Or.inr e)]
      obtain ⟨f, hf⟩ := read_nan y hy ny
      unfold Ieee.Format.order; rw [hf]; unfold Ieee.Datum.order
      cases Ieee.double.read x <;> rfl
    · have ex : place x = if ng x then -(rg x : Int) - 1 else rg x := by unfold place ng; rw [if_neg nx]; simp
      have ey : place y = if ng y then -(rg y : Int) - 1 else rg y := by unfold place ng; rw [if_neg ny]; simp
      have px : place x ≠ -9223372036854775808 := by rw [ex]; split <;> omega
      have py : place y ≠ -9223372036854775808 := by rw [ey]; split <;> omega
      rw [if_neg (by simp [px, py])]
      have kx : kp (place x) = sv (ng x) (rg x) := by rw [ex]; unfold kp sv; cases ng x <;> simp <;> omega
      have ky : kp (place y) = sv (ng y) (rg y) := by rw [ey]; unfold kp sv; cases ng y <;> simp <;> omega
      rw [kx, ky]
      by_cases ix : rg x = 9218868437227405312
      · by_cases iy : rg y = 9218868437227405312
        · unfold Ieee.Format.order; rw [read_inf x hx ix, read_inf y hy iy, ix, iy]
          cases ng x <;> cases ng y <;> decide
        · obtain ⟨m, e, h2, v2⟩ := read_num y hy (by omega)
          unfold Ieee.Format.order; rw [read_inf x hx ix, h2, ix]
          unfold Ieee.Datum.order
          rw [compare_int]; unfold sv
          cases ng x <;> cases ng y <;> simp <;> (repeat' split) <;> first | rfl | omega
      · by_cases iy : rg y = 9218868437227405312
        · obtain ⟨m, e, h2, v2⟩ := read_num x hx (by omega)
          unfold Ieee.Format.order; rw [read_inf y hy iy, h2, iy]
          unfold Ieee.Datum.order
          rw [compare_int]; unfold sv
          cases ng x <;> cases ng y <;> simp <;> (repeat' split) <;> first | rfl | omega
        · exact order_num x y hx hy (by omega) (by omega)

theorem ord_lt (x y : Nat) (hx : x < 18446744073709551616) (hy : y < 18446744073709551616) :
    (FloatKind.f64.format.order x y == some .lt) = decide (place x ≠ -9223372036854775808 ∧ place y ≠ -9223372036854775808 ∧ kp (place x) < kp (place y)) := by
  rw [order_place x y hx hy, compare_int]
  (repeat' split) <;> simp_all <;> omega
theorem ord_gt (x y : Nat) (hx : x < 18446744073709551616) (hy : y < 18446744073709551616) :
    (FloatKind.f64.format.order x y == some .gt) = decide (place x ≠ -9223372036854775808 ∧ place y ≠ -9223372036854775808 ∧ kp (place y) < kp (place x)) := by
  rw [order_place x y hx hy, compare_int]
  (repeat' split) <;> simp_all <;> omega
theorem ord_eq (x y : Nat) (hx : x < 18446744073709551616) (hy : y < 18446744073709551616) :
    (FloatKind.f64.format.order x y == some .eq) = decide (place x ≠ -9223372036854775808 ∧ place y ≠ -9223372036854775808 ∧ kp (place x) = kp (place y)) := by
  rw [order_place x y hx hy, compare_int]
  (repeat' split) <;> simp_all <;> omega

theorem place_range (x : Nat) (hx : x < 18446744073709551616) : place x = -9223372036854775808 ∨ -9218868437227405313 ≤ place x ∧ place x ≤ 9218868437227405312 := by
  unfold place; (repeat' split) <;> omega

/-- the class of a place -/
def cls (p : Int) : Int := if p = -9223372036854775808 then 1 else if p = -9218868437227405313 then 2 else if p < -1 then 3 else if p = -1 then 4 else if p = 0 then 5 else if p < 9218868437227405312 then 6 else 7
end Go.Proofs.Ythocpkmlfkbiaaa.Rl
