/-
  RealRow is true for every three numbers, all bits: they stand in one row. No conditions.
-/
import Derived.Test.YtmfhokbognlhbaaRlAwake
import Derived.ProofKit
import Derived.OpenShut
import Derived.ShutString
namespace Go.Proofs.Ytmfhokbognlhbaa.realRow
open Go.ChangeShapes Go.WideShapes Go.ChangeAt Go.RowKit Go.PlainAid Go.Proofs.Ytmfhokbognlhbaa.Rl
open Go.ChangeMaps (open_string shut_string)
set_option linter.unusedVariables false

theorem tail (a b : Nat) (ha : a < 18446744073709551616) (hb : b < 18446744073709551616) :
    isN a = true ∨ (isN a = false ∧ isN b = true) ∨
    (isN a = false ∧ isN b = false ∧ (FloatKind.f64.format.order a 0 == some .eq) = true ∧ (FloatKind.f64.format.order b 0 == some .eq) = true) ∨
    (isN a = false ∧ isN b = false ∧ (FloatKind.f64.format.order a 0 == some .eq) = false ∧ (FloatKind.f64.format.order a b == some .lt) = lt a b) ∨
    (isN a = false ∧ isN b = false ∧ (FloatKind.f64.format.order a 0 == some .eq) = true ∧ (FloatKind.f64.format.order b 0 == some .eq) = false ∧ (FloatKind.f64.format.order a b == some .lt) = lt a b) := by
  have pa := place_range a ha
  have pb := place_range b hb
  rw [eq_zero a ha, eq_zero b hb, ord_lt a b ha hb]
  unfold isN lt
  generalize place a = p at *
  generalize place b = q at *
  by_cases h1 : p = -9223372036854775808
  · left; rw [decide_eq_true h1]
  · by_cases h2 : q = -9223372036854775808
    · right; left; exact ⟨decide_eq_false h1, decide_eq_true h2⟩
    · by_cases z1 : p = 0 ∨ p = -1
      · by_cases z2 : q = 0 ∨ q = -1
        · right; right; left; exact ⟨decide_eq_false h1, decide_eq_false h2, decide_eq_true z1, decide_eq_true z2⟩
        · right; right; right; right
          refine ⟨decide_eq_false h1, decide_eq_false h2, decide_eq_true z1, decide_eq_false z2, ?_⟩
          congr 1; apply propext; unfold kp; (repeat' split) <;> omega
      · right; right; right; left
        refine ⟨decide_eq_false h1, decide_eq_false h2, decide_eq_false z1, ?_⟩
        congr 1; apply propext; unfold kp; (repeat' split) <;> omega

set_option maxHeartbeats 4000000 in
theorem row0 (a b c : Nat) (w : World) (ha : a < 18446744073709551616) (hb : b < 18446744073709551616) (hc : c < 18446744073709551616) (hab : place a = place b) (hbc : place b = place c) (hac : place a = place c) :
    Calls Try.prog 5 #[.float .f64 a, .float .f64 b, .float .f64 c] w fun e w' => e = .returned (.bool true) ∧ Below w.heap.size w w' := by
  have tl := tail a b ha hb
  go_enter Try.func5, Try.ntmps5
  go_wp2_with fail
  refine (awake_any _).mono ?_
  rintro e w1 ⟨rfl, hb1⟩
  have Lab := less_any a b w1 ha hb
  rw [show lt a b = false from decide_eq_false (by omega)] at Lab
  have Lbc := less_any b c w1 hb hc
  rw [show lt b c = false from decide_eq_false (by omega)] at Lbc
  have Lac := less_any a c w1 ha hc
  rw [show lt a c = false from decide_eq_false (by omega)] at Lac
  have Lba := less_any b a w1 hb ha
  rw [show lt b a = false from decide_eq_false (by omega)] at Lba
  have Laa := less_any a a w1 ha ha
  rw [show lt a a = false from decide_eq_false (by omega)] at Laa
  have Sab := same_any a b w1 ha hb
  rw [show eq a b = true from decide_eq_true (by omega)] at Sab
  have Sbc := same_any b c w1 hb hc
  rw [show eq b c = true from decide_eq_true (by omega)] at Sbc
  have Sac := same_any a c w1 ha hc
  rw [show eq a c = true from decide_eq_true (by omega)] at Sac
  have Sba := same_any b a w1 hb ha
  rw [show eq b a = true from decide_eq_true (by omega)] at Sba
  have Saa := same_any a a w1 ha ha
  rw [show eq a a = true from decide_eq_true (by omega)] at Saa
  rw [show lt a b = false from decide_eq_false (by omega)] at tl
  have Ia := isNaN_any a w1 ha
  have Ib := isNaN_any b w1 hb
  clear hab hbc hac
  go_wp2_with fail
  refine Lab.mono ?_
  rintro e w' ⟨rfl, rfl⟩
  go_wp2_with fail
  refine Laa.mono ?_
  rintro e w' ⟨rfl, rfl⟩
  go_wp2_with fail
  refine Saa.mono ?_
  rintro e w' ⟨rfl, rfl⟩
  go_wp2_with fail
  refine Sab.mono ?_
  rintro e w' ⟨rfl, rfl⟩
  go_wp2_with fail
  refine Sbc.mono ?_
  rintro e w' ⟨rfl, rfl⟩
  go_wp2_with fail
  refine Sac.mono ?_
  rintro e w' ⟨rfl, rfl⟩
  go_wp2_with fail
  refine Sab.mono ?_
  rintro e w' ⟨rfl, rfl⟩
  go_wp2_with fail
  refine Lac.mono ?_
  rintro e w' ⟨rfl, rfl⟩
  go_wp2_with fail
  refine Lbc.mono ?_
  rintro e w' ⟨rfl, rfl⟩
  go_wp2_with fail
  refine Lab.mono ?_
  rintro e w' ⟨rfl, rfl⟩
  go_wp2_with fail
  refine Lba.mono ?_
  rintro e w' ⟨rfl, rfl⟩
  go_wp2_with fail
  refine Sab.mono ?_
  rintro e w' ⟨rfl, rfl⟩
  rcases tl with n1 | ⟨n1, n2⟩ | ⟨n1, n2, z1, z2⟩ | ⟨n1, n2, z1, o⟩ | ⟨n1, n2, z1, z2, o⟩
  · rw [n1] at Ia
    clear n1
    go_wp2_with fail
    refine Ia.mono ?_
    rintro e w' ⟨rfl, rfl⟩
    go_wp2
    go_ret
    exact ⟨rfl, hb1⟩
  · rw [n1] at Ia
    rw [n2] at Ib
    clear n1 n2
    go_wp2_with fail
    refine Ia.mono ?_
    rintro e w' ⟨rfl, rfl⟩
    go_wp2_with fail
    refine Ib.mono ?_
    rintro e w' ⟨rfl, rfl⟩
    go_wp2
    go_ret
    exact ⟨rfl, hb1⟩
  · rw [n1] at Ia
    rw [n2] at Ib
    clear n1 n2
    go_wp2_with fail
    refine Ia.mono ?_
    rintro e w' ⟨rfl, rfl⟩
    go_wp2_with fail
    refine Ib.mono ?_
    rintro e w' ⟨rfl, rfl⟩
    go_wp2
    go_ret
    exact ⟨rfl, hb1⟩
  · rw [n1] at Ia
    rw [n2] at Ib
    clear n1 n2
    go_wp2_with fail
    refine Ia.mono ?_
    rintro e w' ⟨rfl, rfl⟩
    go_wp2_with fail
    refine Ib.mono ?_
    rintro e w' ⟨rfl, rfl⟩
    go_wp2_with fail
    refine Lab.mono ?_
    rintro e w' ⟨rfl, rfl⟩
    go_wp2
    go_ret
    exact ⟨rfl, hb1⟩
  · rw [n1] at Ia
    rw [n2] at Ib
    clear n1 n2
    go_wp2_with fail
    refine Ia.mono ?_
    rintro e w' ⟨rfl, rfl⟩
    go_wp2_with fail
    refine Ib.mono ?_
    rintro e w' ⟨rfl, rfl⟩
    go_wp2_with fail
    refine Lab.mono ?_
    rintro e w' ⟨rfl, rfl⟩
    go_wp2
    go_ret
    exact ⟨rfl, hb1⟩

set_option maxHeartbeats 4000000 in
theorem row1 (a b c : Nat) (w : World) (ha : a < 18446744073709551616) (hb : b < 18446744073709551616) (hc : c < 18446744073709551616) (hab : place a = place b) (hbc : place b < place c) (hac : place a < place c) :
    Calls Try.prog 5 #[.float .f64 a, .float .f64 b, .float .f64 c] w fun e w' => e = .returned (.bool true) ∧ Below w.heap.size w w' := by
  have tl := tail a b ha hb
  go_enter Try.func5, Try.ntmps5
  go_wp2_with fail
  refine (awake_any _).mono ?_
  rintro e w1 ⟨rfl, hb1⟩
  have Lab := less_any a b w1 ha hb
  rw [show lt a b = false from decide_eq_false (by omega)] at Lab
  have Lbc := less_any b c w1 hb hc
  rw [show lt b c = true from decide_eq_true (by omega)] at Lbc
  have Lac := less_any a c w1 ha hc
  rw [show lt a c = true from decide_eq_true (by omega)] at Lac
  have Lba := less_any b a w1 hb ha
  rw [show lt b a = false from decide_eq_false (by omega)] at Lba
  have Laa := less_any a a w1 ha ha
  rw [show lt a a = false from decide_eq_false (by omega)] at Laa
  have Sab := same_any a b w1 ha hb
  rw [show eq a b = true from decide_eq_true (by omega)] at Sab
  have Sbc := same_any b c w1 hb hc
  rw [show eq b c = false from decide_eq_false (by omega)] at Sbc
  have Sac := same_any a c w1 ha hc
  rw [show eq a c = false from decide_eq_false (by omega)] at Sac
  have Sba := same_any b a w1 hb ha
  rw [show eq b a = true from decide_eq_true (by omega)] at Sba
  have Saa := same_any a a w1 ha ha
  rw [show eq a a = true from decide_eq_true (by omega)] at Saa
  rw [show lt a b = false from decide_eq_false (by omega)] at tl
  have Ia := isNaN_any a w1 ha
  have Ib := isNaN_any b w1 hb
  clear hab hbc hac
  go_wp2_with fail
  refine Lab.mono ?_
  rintro e w' ⟨rfl, rfl⟩
  go_wp2_with fail
  refine Laa.mono ?_
  rintro e w' ⟨rfl, rfl⟩
  go_wp2_with fail
  refine Saa.mono ?_
  rintro e w' ⟨rfl, rfl⟩
  go_wp2_with fail
  refine Sab.mono ?_
  rintro e w' ⟨rfl, rfl⟩
  go_wp2_with fail
  refine Sbc.mono ?_
  rintro e w' ⟨rfl, rfl⟩
  go_wp2_with fail
  refine Sab.mono ?_
  rintro e w' ⟨rfl, rfl⟩
  go_wp2_with fail
  refine Lac.mono ?_
  rintro e w' ⟨rfl, rfl⟩
  go_wp2_with fail
  refine Lbc.mono ?_
  rintro e w' ⟨rfl, rfl⟩
  go_wp2_with fail
  refine Lab.mono ?_
  rintro e w' ⟨rfl, rfl⟩
  go_wp2_with fail
  refine Lba.mono ?_
  rintro e w' ⟨rfl, rfl⟩
  go_wp2_with fail
  refine Sab.mono ?_
  rintro e w' ⟨rfl, rfl⟩
  rcases tl with n1 | ⟨n1, n2⟩ | ⟨n1, n2, z1, z2⟩ | ⟨n1, n2, z1, o⟩ | ⟨n1, n2, z1, z2, o⟩
  · rw [n1] at Ia
    clear n1
    go_wp2_with fail
    refine Ia.mono ?_
    rintro e w' ⟨rfl, rfl⟩
    go_wp2
    go_ret
    exact ⟨rfl, hb1⟩
  · rw [n1] at Ia
    rw [n2] at Ib
    clear n1 n2
    go_wp2_with fail
    refine Ia.mono ?_
    rintro e w' ⟨rfl, rfl⟩
    go_wp2_with fail
    refine Ib.mono ?_
    rintro e w' ⟨rfl, rfl⟩
    go_wp2
    go_ret
    exact ⟨rfl, hb1⟩
  · rw [n1] at Ia
    rw [n2] at Ib
    clear n1 n2
    go_wp2_with fail
    refine Ia.mono ?_
    rintro e w' ⟨rfl, rfl⟩
    go_wp2_with fail
    refine Ib.mono ?_
    rintro e w' ⟨rfl, rfl⟩
    go_wp2
    go_ret
    exact ⟨rfl, hb1⟩
  · rw [n1] at Ia
    rw [n2] at Ib
    clear n1 n2
    go_wp2_with fail
    refine Ia.mono ?_
    rintro e w' ⟨rfl, rfl⟩
    go_wp2_with fail
    refine Ib.mono ?_
    rintro e w' ⟨rfl, rfl⟩
    go_wp2_with fail
    refine Lab.mono ?_
    rintro e w' ⟨rfl, rfl⟩
    go_wp2
    go_ret
    exact ⟨rfl, hb1⟩
  · rw [n1] at Ia
    rw [n2] at Ib
    clear n1 n2
    go_wp2_with fail
    refine Ia.mono ?_
    rintro e w' ⟨rfl, rfl⟩
    go_wp2_with fail
    refine Ib.mono ?_
    rintro e w' ⟨rfl, rfl⟩
    go_wp2_with fail
    refine Lab.mono ?_
    rintro e w' ⟨rfl, rfl⟩
    go_wp2
    go_ret
    exact ⟨rfl, hb1⟩

set_option maxHeartbeats 4000000 in
theorem row2 (a b c : Nat) (w : World) (ha : a < 18446744073709551616) (hb : b < 18446744073709551616) (hc : c < 18446744073709551616) (hab : place a < place b) (hbc : place c < place b) (hac : place a = place c) :
    Calls Try.prog 5 #[.float .f64 a, .float .f64 b, .float .f64 c] w fun e w' => e = .returned (.bool true) ∧ Below w.heap.size w w' := by
  have tl := tail a b ha hb
  go_enter Try.func5, Try.ntmps5
  go_wp2_with fail
  refine (awake_any _).mono ?_
  rintro e w1 ⟨rfl, hb1⟩
  have Lab := less_any a b w1 ha hb
  rw [show lt a b = true from decide_eq_true (by omega)] at Lab
  have Lbc := less_any b c w1 hb hc
  rw [show lt b c = false from decide_eq_false (by omega)] at Lbc
  have Lac := less_any a c w1 ha hc
  rw [show lt a c = false from decide_eq_false (by omega)] at Lac
  have Lba := less_any b a w1 hb ha
  rw [show lt b a = false from decide_eq_false (by omega)] at Lba
  have Laa := less_any a a w1 ha ha
  rw [show lt a a = false from decide_eq_false (by omega)] at Laa
  have Sab := same_any a b w1 ha hb
  rw [show eq a b = false from decide_eq_false (by omega)] at Sab
  have Sbc := same_any b c w1 hb hc
  rw [show eq b c = false from decide_eq_false (by omega)] at Sbc
  have Sac := same_any a c w1 ha hc
  rw [show eq a c = true from decide_eq_true (by omega)] at Sac
  have Sba := same_any b a w1 hb ha
  rw [show eq b a = false from decide_eq_false (by omega)] at Sba
  have Saa := same_any a a w1 ha ha
  rw [show eq a a = true from decide_eq_true (by omega)] at Saa
  rw [show lt a b = true from decide_eq_true (by omega)] at tl
  have Ia := isNaN_any a w1 ha
  have Ib := isNaN_any b w1 hb
  clear hab hbc hac
  go_wp2_with fail
  refine Lab.mono ?_
  rintro e w' ⟨rfl, rfl⟩
  go_wp2_with fail
  refine Lbc.mono ?_
  rintro e w' ⟨rfl, rfl⟩
  go_wp2_with fail
  refine Laa.mono ?_
  rintro e w' ⟨rfl, rfl⟩
  go_wp2_with fail
  refine Saa.mono ?_
  rintro e w' ⟨rfl, rfl⟩
  go_wp2_with fail
  refine Sab.mono ?_
  rintro e w' ⟨rfl, rfl⟩
  go_wp2_with fail
  refine Sab.mono ?_
  rintro e w' ⟨rfl, rfl⟩
  go_wp2_with fail
  refine Lab.mono ?_
  rintro e w' ⟨rfl, rfl⟩
  go_wp2_with fail
  refine Sab.mono ?_
  rintro e w' ⟨rfl, rfl⟩
  rcases tl with n1 | ⟨n1, n2⟩ | ⟨n1, n2, z1, z2⟩ | ⟨n1, n2, z1, o⟩ | ⟨n1, n2, z1, z2, o⟩
  · rw [n1] at Ia
    clear n1
    go_wp2_with fail
    refine Ia.mono ?_
    rintro e w' ⟨rfl, rfl⟩
    go_wp2
    go_ret
    exact ⟨rfl, hb1⟩
  · rw [n1] at Ia
    rw [n2] at Ib
    clear n1 n2
    go_wp2_with fail
    refine Ia.mono ?_
    rintro e w' ⟨rfl, rfl⟩
    go_wp2_with fail
    refine Ib.mono ?_
    rintro e w' ⟨rfl, rfl⟩
    go_wp2
    go_ret
    exact ⟨rfl, hb1⟩
  · rw [n1] at Ia
    rw [n2] at Ib
    clear n1 n2
    go_wp2_with fail
    refine Ia.mono ?_
    rintro e w' ⟨rfl, rfl⟩
    go_wp2_with fail
    refine Ib.mono ?_
    rintro e w' ⟨rfl, rfl⟩
    go_wp2
    go_ret
    exact ⟨rfl, hb1⟩
  · rw [n1] at Ia
    rw [n2] at Ib
    clear n1 n2
    go_wp2_with fail
    refine Ia.mono ?_
    rintro e w' ⟨rfl, rfl⟩
    go_wp2_with fail
    refine Ib.mono ?_
    rintro e w' ⟨rfl, rfl⟩
    go_wp2_with fail
    refine Lab.mono ?_
    rintro e w' ⟨rfl, rfl⟩
    go_wp2
    go_ret
    exact ⟨rfl, hb1⟩
  · rw [n1] at Ia
    rw [n2] at Ib
    clear n1 n2
    go_wp2_with fail
    refine Ia.mono ?_
    rintro e w' ⟨rfl, rfl⟩
    go_wp2_with fail
    refine Ib.mono ?_
    rintro e w' ⟨rfl, rfl⟩
    go_wp2_with fail
    refine Lab.mono ?_
    rintro e w' ⟨rfl, rfl⟩
    go_wp2
    go_ret
    exact ⟨rfl, hb1⟩

set_option maxHeartbeats 4000000 in
theorem row3 (a b c : Nat) (w : World) (ha : a < 18446744073709551616) (hb : b < 18446744073709551616) (hc : c < 18446744073709551616) (hab : place a < place b) (hbc : place b = place c) (hac : place a < place c) :
    Calls Try.prog 5 #[.float .f64 a, .float .f64 b, .float .f64 c] w fun e w' => e = .returned (.bool true) ∧ Below w.heap.size w w' := by
  have tl := tail a b ha hb
  go_enter Try.func5, Try.ntmps5
  go_wp2_with fail
  refine (awake_any _).mono ?_
  rintro e w1 ⟨rfl, hb1⟩
  have Lab := less_any a b w1 ha hb
  rw [show lt a b = true from decide_eq_true (by omega)] at Lab
  have Lbc := less_any b c w1 hb hc
  rw [show lt b c = false from decide_eq_false (by omega)] at Lbc
  have Lac := less_any a c w1 ha hc
  rw [show lt a c = true from decide_eq_true (by omega)] at Lac
  have Lba := less_any b a w1 hb ha
  rw [show lt b a = false from decide_eq_false (by omega)] at Lba
  have Laa := less_any a a w1 ha ha
  rw [show lt a a = false from decide_eq_false (by omega)] at Laa
  have Sab := same_any a b w1 ha hb
  rw [show eq a b = false from decide_eq_false (by omega)] at Sab
  have Sbc := same_any b c w1 hb hc
  rw [show eq b c = true from decide_eq_true (by omega)] at Sbc
  have Sac := same_any a c w1 ha hc
  rw [show eq a c = false from decide_eq_false (by omega)] at Sac
  have Sba := same_any b a w1 hb ha
  rw [show eq b a = false from decide_eq_false (by omega)] at Sba
  have Saa := same_any a a w1 ha ha
  rw [show eq a a = true from decide_eq_true (by omega)] at Saa
  rw [show lt a b = true from decide_eq_true (by omega)] at tl
  have Ia := isNaN_any a w1 ha
  have Ib := isNaN_any b w1 hb
  clear hab hbc hac
  go_wp2_with fail
  refine Lab.mono ?_
  rintro e w' ⟨rfl, rfl⟩
  go_wp2_with fail
  refine Lbc.mono ?_
  rintro e w' ⟨rfl, rfl⟩
  go_wp2_with fail
  refine Laa.mono ?_
  rintro e w' ⟨rfl, rfl⟩
  go_wp2_with fail
  refine Saa.mono ?_
  rintro e w' ⟨rfl, rfl⟩
  go_wp2_with fail
  refine Sab.mono ?_
  rintro e w' ⟨rfl, rfl⟩
  go_wp2_with fail
  refine Sab.mono ?_
  rintro e w' ⟨rfl, rfl⟩
  go_wp2_with fail
  refine Lab.mono ?_
  rintro e w' ⟨rfl, rfl⟩
  go_wp2_with fail
  refine Sab.mono ?_
  rintro e w' ⟨rfl, rfl⟩
  rcases tl with n1 | ⟨n1, n2⟩ | ⟨n1, n2, z1, z2⟩ | ⟨n1, n2, z1, o⟩ | ⟨n1, n2, z1, z2, o⟩
  · rw [n1] at Ia
    clear n1
    go_wp2_with fail
    refine Ia.mono ?_
    rintro e w' ⟨rfl, rfl⟩
    go_wp2
    go_ret
    exact ⟨rfl, hb1⟩
  · rw [n1] at Ia
    rw [n2] at Ib
    clear n1 n2
    go_wp2_with fail
    refine Ia.mono ?_
    rintro e w' ⟨rfl, rfl⟩
    go_wp2_with fail
    refine Ib.mono ?_
    rintro e w' ⟨rfl, rfl⟩
    go_wp2
    go_ret
    exact ⟨rfl, hb1⟩
  · rw [n1] at Ia
    rw [n2] at Ib
    clear n1 n2
    go_wp2_with fail
    refine Ia.mono ?_
    rintro e w' ⟨rfl, rfl⟩
    go_wp2_with fail
    refine Ib.mono ?_
    rintro e w' ⟨rfl, rfl⟩
    go_wp2
    go_ret
    exact ⟨rfl, hb1⟩
  · rw [n1] at Ia
    rw [n2] at Ib
    clear n1 n2
    go_wp2_with fail
    refine Ia.mono ?_
    rintro e w' ⟨rfl, rfl⟩
    go_wp2_with fail
    refine Ib.mono ?_
    rintro e w' ⟨rfl, rfl⟩
    go_wp2_with fail
    refine Lab.mono ?_
    rintro e w' ⟨rfl, rfl⟩
    go_wp2
    go_ret
    exact ⟨rfl, hb1⟩
  · rw [n1] at Ia
    rw [n2] at Ib
    clear n1 n2
    go_wp2_with fail
    refine Ia.mono ?_
    rintro e w' ⟨rfl, rfl⟩
    go_wp2_with fail
    refine Ib.mono ?_
    rintro e w' ⟨rfl, rfl⟩
    go_wp2_with fail
    refine Lab.mono ?_
    rintro e w' ⟨rfl, rfl⟩
    go_wp2
    go_ret
    exact ⟨rfl, hb1⟩

set_option maxHeartbeats 4000000 in
theorem row4 (a b c : Nat) (w : World) (ha : a < 18446744073709551616) (hb : b < 18446744073709551616) (hc : c < 18446744073709551616) (hab : place a < place b) (hbc : place b < place c) (hac : place a < place c) :
    Calls Try.prog 5 #[.float .f64 a, .float .f64 b, .float .f64 c] w fun e w' => e = .returned (.bool true) ∧ Below w.heap.size w w' := by
  have tl := tail a b ha hb
  go_enter Try.func5, Try.ntmps5
  go_wp2_with fail
  refine (awake_any _).mono ?_
  rintro e w1 ⟨rfl, hb1⟩
  have Lab := less_any a b w1 ha hb
  rw [show lt a b = true from decide_eq_true (by omega)] at Lab
  have Lbc := less_any b c w1 hb hc
  rw [show lt b c = true from decide_eq_true (by omega)] at Lbc
  have Lac := less_any a c w1 ha hc
  rw [show lt a c = true from decide_eq_true (by omega)] at Lac
  have Lba := less_any b a w1 hb ha
  rw [show lt b a = false from decide_eq_false (by omega)] at Lba
  have Laa := less_any a a w1 ha ha
  rw [show lt a a = false from decide_eq_false (by omega)] at Laa
  have Sab := same_any a b w1 ha hb
  rw [show eq a b = false from decide_eq_false (by omega)] at Sab
  have Sbc := same_any b c w1 hb hc
  rw [show eq b c = false from decide_eq_false (by omega)] at Sbc
  have Sac := same_any a c w1 ha hc
  rw [show eq a c = false from decide_eq_false (by omega)] at Sac
  have Sba := same_any b a w1 hb ha
  rw [show eq b a = false from decide_eq_false (by omega)] at Sba
  have Saa := same_any a a w1 ha ha
  rw [show eq a a = true from decide_eq_true (by omega)] at Saa
  rw [show lt a b = true from decide_eq_true (by omega)] at tl
  have Ia := isNaN_any a w1 ha
  have Ib := isNaN_any b w1 hb
  clear hab hbc hac
  go_wp2_with fail
  refine Lab.mono ?_
  rintro e w' ⟨rfl, rfl⟩
  go_wp2_with fail
  refine Lbc.mono ?_
  rintro e w' ⟨rfl, rfl⟩
  go_wp2_with fail
  refine Lac.mono ?_
  rintro e w' ⟨rfl, rfl⟩
  go_wp2_with fail
  refine Laa.mono ?_
  rintro e w' ⟨rfl, rfl⟩
  go_wp2_with fail
  refine Saa.mono ?_
  rintro e w' ⟨rfl, rfl⟩
  go_wp2_with fail
  refine Sab.mono ?_
  rintro e w' ⟨rfl, rfl⟩
  go_wp2_with fail
  refine Sab.mono ?_
  rintro e w' ⟨rfl, rfl⟩
  go_wp2_with fail
  refine Lab.mono ?_
  rintro e w' ⟨rfl, rfl⟩
  go_wp2_with fail
  refine Sab.mono ?_
  rintro e w' ⟨rfl, rfl⟩
  rcases tl with n1 | ⟨n1, n2⟩ | ⟨n1, n2, z1, z2⟩ | ⟨n1, n2, z1, o⟩ | ⟨n1, n2, z1, z2, o⟩
  · rw [n1] at Ia
    clear n1
    go_wp2_with fail
    refine Ia.mono ?_
    rintro e w' ⟨rfl, rfl⟩
    go_wp2
    go_ret
    exact ⟨rfl, hb1⟩
  · rw [n1] at Ia
    rw [n2] at Ib
    clear n1 n2
    go_wp2_with fail
    refine Ia.mono ?_
    rintro e w' ⟨rfl, rfl⟩
    go_wp2_with fail
    refine Ib.mono ?_
    rintro e w' ⟨rfl, rfl⟩
    go_wp2
    go_ret
    exact ⟨rfl, hb1⟩
  · rw [n1] at Ia
    rw [n2] at Ib
    clear n1 n2
    go_wp2_with fail
    refine Ia.mono ?_
    rintro e w' ⟨rfl, rfl⟩
    go_wp2_with fail
    refine Ib.mono ?_
    rintro e w' ⟨rfl, rfl⟩
    go_wp2
    go_ret
    exact ⟨rfl, hb1⟩
  · rw [n1] at Ia
    rw [n2] at Ib
    clear n1 n2
    go_wp2_with fail
    refine Ia.mono ?_
    rintro e w' ⟨rfl, rfl⟩
    go_wp2_with fail
    refine Ib.mono ?_
    rintro e w' ⟨rfl, rfl⟩
    go_wp2_with fail
    refine Lab.mono ?_
    rintro e w' ⟨rfl, rfl⟩
    go_wp2
    go_ret
    exact ⟨rfl, hb1⟩
  · rw [n1] at Ia
    rw [n2] at Ib
    clear n1 n2
    go_wp2_with fail
    refine Ia.mono ?_
    rintro e w' ⟨rfl, rfl⟩
    go_wp2_with fail
    refine Ib.mono ?_
    rintro e w' ⟨rfl, rfl⟩
    go_wp2_with fail
    refine Lab.mono ?_
    rintro e w' ⟨rfl, rfl⟩
    go_wp2
    go_ret
    exact ⟨rfl, hb1⟩

set_option maxHeartbeats 4000000 in
theorem row5 (a b c : Nat) (w : World) (ha : a < 18446744073709551616) (hb : b < 18446744073709551616) (hc : c < 18446744073709551616) (hab : place a < place b) (hbc : place c < place b) (hac : place a < place c) :
    Calls Try.prog 5 #[.float .f64 a, .float .f64 b, .float .f64 c] w fun e w' => e = .returned (.bool true) ∧ Below w.heap.size w w' := by
  have tl := tail a b ha hb
  go_enter Try.func5, Try.ntmps5
  go_wp2_with fail
  refine (awake_any _).mono ?_
  rintro e w1 ⟨rfl, hb1⟩
  have Lab := less_any a b w1 ha hb
  rw [show lt a b = true from decide_eq_true (by omega)] at Lab
  have Lbc := less_any b c w1 hb hc
  rw [show lt b c = false from decide_eq_false (by omega)] at Lbc
  have Lac := less_any a c w1 ha hc
  rw [show lt a c = true from decide_eq_true (by omega)] at Lac
  have Lba := less_any b a w1 hb ha
  rw [show lt b a = false from decide_eq_false (by omega)] at Lba
  have Laa := less_any a a w1 ha ha
  rw [show lt a a = false from decide_eq_false (by omega)] at Laa
  have Sab := same_any a b w1 ha hb
  rw [show eq a b = false from decide_eq_false (by omega)] at Sab
  have Sbc := same_any b c w1 hb hc
  rw [show eq b c = false from decide_eq_false (by omega)] at Sbc
  have Sac := same_any a c w1 ha hc
  rw [show eq a c = false from decide_eq_false (by omega)] at Sac
  have Sba := same_any b a w1 hb ha
  rw [show eq b a = false from decide_eq_false (by omega)] at Sba
  have Saa := same_any a a w1 ha ha
  rw [show eq a a = true from decide_eq_true (by omega)] at Saa
  rw [show lt a b = true from decide_eq_true (by omega)] at tl
  have Ia := isNaN_any a w1 ha
  have Ib := isNaN_any b w1 hb
  clear hab hbc hac
  go_wp2_with fail
  refine Lab.mono ?_
  rintro e w' ⟨rfl, rfl⟩
  go_wp2_with fail
  refine Lbc.mono ?_
  rintro e w' ⟨rfl, rfl⟩
  go_wp2_with fail
  refine Laa.mono ?_
  rintro e w' ⟨rfl, rfl⟩
  go_wp2_with fail
  refine Saa.mono ?_
  rintro e w' ⟨rfl, rfl⟩
  go_wp2_with fail
  refine Sab.mono ?_
  rintro e w' ⟨rfl, rfl⟩
  go_wp2_with fail
  refine Sab.mono ?_
  rintro e w' ⟨rfl, rfl⟩
  go_wp2_with fail
  refine Lab.mono ?_
  rintro e w' ⟨rfl, rfl⟩
  go_wp2_with fail
  refine Sab.mono ?_
  rintro e w' ⟨rfl, rfl⟩
  rcases tl with n1 | ⟨n1, n2⟩ | ⟨n1, n2, z1, z2⟩ | ⟨n1, n2, z1, o⟩ | ⟨n1, n2, z1, z2, o⟩
  · rw [n1] at Ia
    clear n1
    go_wp2_with fail
    refine Ia.mono ?_
    rintro e w' ⟨rfl, rfl⟩
    go_wp2
    go_ret
    exact ⟨rfl, hb1⟩
  · rw [n1] at Ia
    rw [n2] at Ib
    clear n1 n2
    go_wp2_with fail
    refine Ia.mono ?_
    rintro e w' ⟨rfl, rfl⟩
    go_wp2_with fail
    refine Ib.mono ?_
    rintro e w' ⟨rfl, rfl⟩
    go_wp2
    go_ret
    exact ⟨rfl, hb1⟩
  · rw [n1] at Ia
    rw [n2] at Ib
    clear n1 n2
    go_wp2_with fail
    refine Ia.mono ?_
    rintro e w' ⟨rfl, rfl⟩
    go_wp2_with fail
    refine Ib.mono ?_
    rintro e w' ⟨rfl, rfl⟩
    go_wp2
    go_ret
    exact ⟨rfl, hb1⟩
  · rw [n1] at Ia
    rw [n2] at Ib
    clear n1 n2
    go_wp2_with fail
    refine Ia.mono ?_
    rintro e w' ⟨rfl, rfl⟩
    go_wp2_with fail
    refine Ib.mono ?_
    rintro e w' ⟨rfl, rfl⟩
    go_wp2_with fail
    refine Lab.mono ?_
    rintro e w' ⟨rfl, rfl⟩
    go_wp2
    go_ret
    exact ⟨rfl, hb1⟩
  · rw [n1] at Ia
    rw [n2] at Ib
    clear n1 n2
    go_wp2_with fail
    refine Ia.mono ?_
    rintro e w' ⟨rfl, rfl⟩
    go_wp2_with fail
    refine Ib.mono ?_
    rintro e w' ⟨rfl, rfl⟩
    go_wp2_with fail
    refine Lab.mono ?_
    rintro e w' ⟨rfl, rfl⟩
    go_wp2
    go_ret
    exact ⟨rfl, hb1⟩

set_option maxHeartbeats 4000000 in
theorem row6 (a b c : Nat) (w : World) (ha : a < 18446744073709551616) (hb : b < 18446744073709551616) (hc : c < 18446744073709551616) (hab : place b < place a) (hbc : place b = place c) (hac : place c < place a) :
    Calls Try.prog 5 #[.float .f64 a, .float .f64 b, .float .f64 c] w fun e w' => e = .returned (.bool true) ∧ Below w.heap.size w w' := by
  have tl := tail a b ha hb
  go_enter Try.func5, Try.ntmps5
  go_wp2_with fail
  refine (awake_any _).mono ?_
  rintro e w1 ⟨rfl, hb1⟩
  have Lab := less_any a b w1 ha hb
  rw [show lt a b = false from decide_eq_false (by omega)] at Lab
  have Lbc := less_any b c w1 hb hc
  rw [show lt b c = false from decide_eq_false (by omega)] at Lbc
  have Lac := less_any a c w1 ha hc
  rw [show lt a c = false from decide_eq_false (by omega)] at Lac
  have Lba := less_any b a w1 hb ha
  rw [show lt b a = true from decide_eq_true (by omega)] at Lba
  have Laa := less_any a a w1 ha ha
  rw [show lt a a = false from decide_eq_false (by omega)] at Laa
  have Sab := same_any a b w1 ha hb
  rw [show eq a b = false from decide_eq_false (by omega)] at Sab
  have Sbc := same_any b c w1 hb hc
  rw [show eq b c = true from decide_eq_true (by omega)] at Sbc
  have Sac := same_any a c w1 ha hc
  rw [show eq a c = false from decide_eq_false (by omega)] at Sac
  have Sba := same_any b a w1 hb ha
  rw [show eq b a = false from decide_eq_false (by omega)] at Sba
  have Saa := same_any a a w1 ha ha
  rw [show eq a a = true from decide_eq_true (by omega)] at Saa
  rw [show lt a b = false from decide_eq_false (by omega)] at tl
  have Ia := isNaN_any a w1 ha
  have Ib := isNaN_any b w1 hb
  clear hab hbc hac
  go_wp2_with fail
  refine Lab.mono ?_
  rintro e w' ⟨rfl, rfl⟩
  go_wp2_with fail
  refine Laa.mono ?_
  rintro e w' ⟨rfl, rfl⟩
  go_wp2_with fail
  refine Saa.mono ?_
  rintro e w' ⟨rfl, rfl⟩
  go_wp2_with fail
  refine Sab.mono ?_
  rintro e w' ⟨rfl, rfl⟩
  go_wp2_with fail
  refine Sab.mono ?_
  rintro e w' ⟨rfl, rfl⟩
  go_wp2_with fail
  refine Lab.mono ?_
  rintro e w' ⟨rfl, rfl⟩
  go_wp2_with fail
  refine Lba.mono ?_
  rintro e w' ⟨rfl, rfl⟩
  go_wp2_with fail
  refine Sab.mono ?_
  rintro e w' ⟨rfl, rfl⟩
  rcases tl with n1 | ⟨n1, n2⟩ | ⟨n1, n2, z1, z2⟩ | ⟨n1, n2, z1, o⟩ | ⟨n1, n2, z1, z2, o⟩
  · rw [n1] at Ia
    clear n1
    go_wp2_with fail
    refine Ia.mono ?_
    rintro e w' ⟨rfl, rfl⟩
    go_wp2
    go_ret
    exact ⟨rfl, hb1⟩
  · rw [n1] at Ia
    rw [n2] at Ib
    clear n1 n2
    go_wp2_with fail
    refine Ia.mono ?_
    rintro e w' ⟨rfl, rfl⟩
    go_wp2_with fail
    refine Ib.mono ?_
    rintro e w' ⟨rfl, rfl⟩
    go_wp2
    go_ret
    exact ⟨rfl, hb1⟩
  · rw [n1] at Ia
    rw [n2] at Ib
    clear n1 n2
    go_wp2_with fail
    refine Ia.mono ?_
    rintro e w' ⟨rfl, rfl⟩
    go_wp2_with fail
    refine Ib.mono ?_
    rintro e w' ⟨rfl, rfl⟩
    go_wp2
    go_ret
    exact ⟨rfl, hb1⟩
  · rw [n1] at Ia
    rw [n2] at Ib
    clear n1 n2
    go_wp2_with fail
    refine Ia.mono ?_
    rintro e w' ⟨rfl, rfl⟩
    go_wp2_with fail
    refine Ib.mono ?_
    rintro e w' ⟨rfl, rfl⟩
    go_wp2_with fail
    refine Lab.mono ?_
    rintro e w' ⟨rfl, rfl⟩
    go_wp2
    go_ret
    exact ⟨rfl, hb1⟩
  · rw [n1] at Ia
    rw [n2] at Ib
    clear n1 n2
    go_wp2_with fail
    refine Ia.mono ?_
    rintro e w' ⟨rfl, rfl⟩
    go_wp2_with fail
    refine Ib.mono ?_
    rintro e w' ⟨rfl, rfl⟩
    go_wp2_with fail
    refine Lab.mono ?_
    rintro e w' ⟨rfl, rfl⟩
    go_wp2
    go_ret
    exact ⟨rfl, hb1⟩

set_option maxHeartbeats 4000000 in
theorem row7 (a b c : Nat) (w : World) (ha : a < 18446744073709551616) (hb : b < 18446744073709551616) (hc : c < 18446744073709551616) (hab : place b < place a) (hbc : place b < place c) (hac : place a = place c) :
    Calls Try.prog 5 #[.float .f64 a, .float .f64 b, .float .f64 c] w fun e w' => e = .returned (.bool true) ∧ Below w.heap.size w w' := by
  have tl := tail a b ha hb
  go_enter Try.func5, Try.ntmps5
  go_wp2_with fail
  refine (awake_any _).mono ?_
  rintro e w1 ⟨rfl, hb1⟩
  have Lab := less_any a b w1 ha hb
  rw [show lt a b = false from decide_eq_false (by omega)] at Lab
  have Lbc := less_any b c w1 hb hc
  rw [show lt b c = true from decide_eq_true (by omega)] at Lbc
  have Lac := less_any a c w1 ha hc
  rw [show lt a c = false from decide_eq_false (by omega)] at Lac
  have Lba := less_any b a w1 hb ha
  rw [show lt b a = true from decide_eq_true (by omega)] at Lba
  have Laa := less_any a a w1 ha ha
  rw [show lt a a = false from decide_eq_false (by omega)] at Laa
  have Sab := same_any a b w1 ha hb
  rw [show eq a b = false from decide_eq_false (by omega)] at Sab
  have Sbc := same_any b c w1 hb hc
  rw [show eq b c = false from decide_eq_false (by omega)] at Sbc
  have Sac := same_any a c w1 ha hc
  rw [show eq a c = true from decide_eq_true (by omega)] at Sac
  have Sba := same_any b a w1 hb ha
  rw [show eq b a = false from decide_eq_false (by omega)] at Sba
  have Saa := same_any a a w1 ha ha
  rw [show eq a a = true from decide_eq_true (by omega)] at Saa
  rw [show lt a b = false from decide_eq_false (by omega)] at tl
  have Ia := isNaN_any a w1 ha
  have Ib := isNaN_any b w1 hb
  clear hab hbc hac
  go_wp2_with fail
  refine Lab.mono ?_
  rintro e w' ⟨rfl, rfl⟩
  go_wp2_with fail
  refine Laa.mono ?_
  rintro e w' ⟨rfl, rfl⟩
  go_wp2_with fail
  refine Saa.mono ?_
  rintro e w' ⟨rfl, rfl⟩
  go_wp2_with fail
  refine Sab.mono ?_
  rintro e w' ⟨rfl, rfl⟩
  go_wp2_with fail
  refine Sab.mono ?_
  rintro e w' ⟨rfl, rfl⟩
  go_wp2_with fail
  refine Lab.mono ?_
  rintro e w' ⟨rfl, rfl⟩
  go_wp2_with fail
  refine Lba.mono ?_
  rintro e w' ⟨rfl, rfl⟩
  go_wp2_with fail
  refine Sab.mono ?_
  rintro e w' ⟨rfl, rfl⟩
  rcases tl with n1 | ⟨n1, n2⟩ | ⟨n1, n2, z1, z2⟩ | ⟨n1, n2, z1, o⟩ | ⟨n1, n2, z1, z2, o⟩
  · rw [n1] at Ia
    clear n1
    go_wp2_with fail
    refine Ia.mono ?_
    rintro e w' ⟨rfl, rfl⟩
    go_wp2
    go_ret
    exact ⟨rfl, hb1⟩
  · rw [n1] at Ia
    rw [n2] at Ib
    clear n1 n2
    go_wp2_with fail
    refine Ia.mono ?_
    rintro e w' ⟨rfl, rfl⟩
    go_wp2_with fail
    refine Ib.mono ?_
    rintro e w' ⟨rfl, rfl⟩
    go_wp2
    go_ret
    exact ⟨rfl, hb1⟩
  · rw [n1] at Ia
    rw [n2] at Ib
    clear n1 n2
    go_wp2_with fail
    refine Ia.mono ?_
    rintro e w' ⟨rfl, rfl⟩
    go_wp2_with fail
    refine Ib.mono ?_
    rintro e w' ⟨rfl, rfl⟩
    go_wp2
    go_ret
    exact ⟨rfl, hb1⟩
  · rw [n1] at Ia
    rw [n2] at Ib
    clear n1 n2
    go_wp2_with fail
    refine Ia.mono ?_
    rintro e w' ⟨rfl, rfl⟩
    go_wp2_with fail
    refine Ib.mono ?_
    rintro e w' ⟨rfl, rfl⟩
    go_wp2_with fail
    refine Lab.mono ?_
    rintro e w' ⟨rfl, rfl⟩
    go_wp2
    go_ret
    exact ⟨rfl, hb1⟩
  · rw [n1] at Ia
    rw [n2] at Ib
    clear n1 n2
    go_wp2_with fail
    refine Ia.mono ?_
    rintro e w' ⟨rfl, rfl⟩
    go_wp2_with fail
    refine Ib.mono ?_
    rintro e w' ⟨rfl, rfl⟩
    go_wp2_with fail
    refine Lab.mono ?_
    rintro e w' ⟨rfl, rfl⟩
    go_wp2
    go_ret
    exact ⟨rfl, hb1⟩

set_option maxHeartbeats 4000000 in
theorem row8 (a b c : Nat) (w : World) (ha : a < 18446744073709551616) (hb : b < 18446744073709551616) (hc : c < 18446744073709551616) (hab : place b < place a) (hbc : place b < place c) (hac : place a < place c) :
    Calls Try.prog 5 #[.float .f64 a, .float .f64 b, .float .f64 c] w fun e w' => e = .returned (.bool true) ∧ Below w.heap.size w w' := by
  have tl := tail a b ha hb
  go_enter Try.func5, Try.ntmps5
  go_wp2_with fail
  refine (awake_any _).mono ?_
  rintro e w1 ⟨rfl, hb1⟩
  have Lab := less_any a b w1 ha hb
  rw [show lt a b = false from decide_eq_false (by omega)] at Lab
  have Lbc := less_any b c w1 hb hc
  rw [show lt b c = true from decide_eq_true (by omega)] at Lbc
  have Lac := less_any a c w1 ha hc
  rw [show lt a c = true from decide_eq_true (by omega)] at Lac
  have Lba := less_any b a w1 hb ha
  rw [show lt b a = true from decide_eq_true (by omega)] at Lba
  have Laa := less_any a a w1 ha ha
  rw [show lt a a = false from decide_eq_false (by omega)] at Laa
  have Sab := same_any a b w1 ha hb
  rw [show eq a b = false from decide_eq_false (by omega)] at Sab
  have Sbc := same_any b c w1 hb hc
  rw [show eq b c = false from decide_eq_false (by omega)] at Sbc
  have Sac := same_any a c w1 ha hc
  rw [show eq a c = false from decide_eq_false (by omega)] at Sac
  have Sba := same_any b a w1 hb ha
  rw [show eq b a = false from decide_eq_false (by omega)] at Sba
  have Saa := same_any a a w1 ha ha
  rw [show eq a a = true from decide_eq_true (by omega)] at Saa
  rw [show lt a b = false from decide_eq_false (by omega)] at tl
  have Ia := isNaN_any a w1 ha
  have Ib := isNaN_any b w1 hb
  clear hab hbc hac
  go_wp2_with fail
  refine Lab.mono ?_
  rintro e w' ⟨rfl, rfl⟩
  go_wp2_with fail
  refine Laa.mono ?_
  rintro e w' ⟨rfl, rfl⟩
  go_wp2_with fail
  refine Saa.mono ?_
  rintro e w' ⟨rfl, rfl⟩
  go_wp2_with fail
  refine Sab.mono ?_
  rintro e w' ⟨rfl, rfl⟩
  go_wp2_with fail
  refine Sab.mono ?_
  rintro e w' ⟨rfl, rfl⟩
  go_wp2_with fail
  refine Lab.mono ?_
  rintro e w' ⟨rfl, rfl⟩
  go_wp2_with fail
  refine Lba.mono ?_
  rintro e w' ⟨rfl, rfl⟩
  go_wp2_with fail
  refine Sab.mono ?_
  rintro e w' ⟨rfl, rfl⟩
  rcases tl with n1 | ⟨n1, n2⟩ | ⟨n1, n2, z1, z2⟩ | ⟨n1, n2, z1, o⟩ | ⟨n1, n2, z1, z2, o⟩
  · rw [n1] at Ia
    clear n1
    go_wp2_with fail
    refine Ia.mono ?_
    rintro e w' ⟨rfl, rfl⟩
    go_wp2
    go_ret
    exact ⟨rfl, hb1⟩
  · rw [n1] at Ia
    rw [n2] at Ib
    clear n1 n2
    go_wp2_with fail
    refine Ia.mono ?_
    rintro e w' ⟨rfl, rfl⟩
    go_wp2_with fail
    refine Ib.mono ?_
    rintro e w' ⟨rfl, rfl⟩
    go_wp2
    go_ret
    exact ⟨rfl, hb1⟩
  · rw [n1] at Ia
    rw [n2] at Ib
    clear n1 n2
    go_wp2_with fail
    refine Ia.mono ?_
    rintro e w' ⟨rfl, rfl⟩
    go_wp2_with fail
    refine Ib.mono ?_
    rintro e w' ⟨rfl, rfl⟩
    go_wp2
    go_ret
    exact ⟨rfl, hb1⟩
  · rw [n1] at Ia
    rw [n2] at Ib
    clear n1 n2
    go_wp2_with fail
    refine Ia.mono ?_
    rintro e w' ⟨rfl, rfl⟩
    go_wp2_with fail
    refine Ib.mono ?_
    rintro e w' ⟨rfl, rfl⟩
    go_wp2_with fail
    refine Lab.mono ?_
    rintro e w' ⟨rfl, rfl⟩
    go_wp2
    go_ret
    exact ⟨rfl, hb1⟩
  · rw [n1] at Ia
    rw [n2] at Ib
    clear n1 n2
    go_wp2_with fail
    refine Ia.mono ?_
    rintro e w' ⟨rfl, rfl⟩
    go_wp2_with fail
    refine Ib.mono ?_
    rintro e w' ⟨rfl, rfl⟩
    go_wp2_with fail
    refine Lab.mono ?_
    rintro e w' ⟨rfl, rfl⟩
    go_wp2
    go_ret
    exact ⟨rfl, hb1⟩

set_option maxHeartbeats 4000000 in
theorem row9 (a b c : Nat) (w : World) (ha : a < 18446744073709551616) (hb : b < 18446744073709551616) (hc : c < 18446744073709551616) (hab : place a = place b) (hbc : place c < place b) (hac : place c < place a) :
    Calls Try.prog 5 #[.float .f64 a, .float .f64 b, .float .f64 c] w fun e w' => e = .returned (.bool true) ∧ Below w.heap.size w w' := by
  have tl := tail a b ha hb
  go_enter Try.func5, Try.ntmps5
  go_wp2_with fail
  refine (awake_any _).mono ?_
  rintro e w1 ⟨rfl, hb1⟩
  have Lab := less_any a b w1 ha hb
  rw [show lt a b = false from decide_eq_false (by omega)] at Lab
  have Lbc := less_any b c w1 hb hc
  rw [show lt b c = false from decide_eq_false (by omega)] at Lbc
  have Lac := less_any a c w1 ha hc
  rw [show lt a c = false from decide_eq_false (by omega)] at Lac
  have Lba := less_any b a w1 hb ha
  rw [show lt b a = false from decide_eq_false (by omega)] at Lba
  have Laa := less_any a a w1 ha ha
  rw [show lt a a = false from decide_eq_false (by omega)] at Laa
  have Sab := same_any a b w1 ha hb
  rw [show eq a b = true from decide_eq_true (by omega)] at Sab
  have Sbc := same_any b c w1 hb hc
  rw [show eq b c = false from decide_eq_false (by omega)] at Sbc
  have Sac := same_any a c w1 ha hc
  rw [show eq a c = false from decide_eq_false (by omega)] at Sac
  have Sba := same_any b a w1 hb ha
  rw [show eq b a = true from decide_eq_true (by omega)] at Sba
  have Saa := same_any a a w1 ha ha
  rw [show eq a a = true from decide_eq_true (by omega)] at Saa
  rw [show lt a b = false from decide_eq_false (by omega)] at tl
  have Ia := isNaN_any a w1 ha
  have Ib := isNaN_any b w1 hb
  clear hab hbc hac
  go_wp2_with fail
  refine Lab.mono ?_
  rintro e w' ⟨rfl, rfl⟩
  go_wp2_with fail
  refine Laa.mono ?_
  rintro e w' ⟨rfl, rfl⟩
  go_wp2_with fail
  refine Saa.mono ?_
  rintro e w' ⟨rfl, rfl⟩
  go_wp2_with fail
  refine Sab.mono ?_
  rintro e w' ⟨rfl, rfl⟩
  go_wp2_with fail
  refine Sbc.mono ?_
  rintro e w' ⟨rfl, rfl⟩
  go_wp2_with fail
  refine Sab.mono ?_
  rintro e w' ⟨rfl, rfl⟩
  go_wp2_with fail
  refine Lac.mono ?_
  rintro e w' ⟨rfl, rfl⟩
  go_wp2_with fail
  refine Lbc.mono ?_
  rintro e w' ⟨rfl, rfl⟩
  go_wp2_with fail
  refine Lab.mono ?_
  rintro e w' ⟨rfl, rfl⟩
  go_wp2_with fail
  refine Lba.mono ?_
  rintro e w' ⟨rfl, rfl⟩
  go_wp2_with fail
  refine Sab.mono ?_
  rintro e w' ⟨rfl, rfl⟩
  rcases tl with n1 | ⟨n1, n2⟩ | ⟨n1, n2, z1, z2⟩ | ⟨n1, n2, z1, o⟩ | ⟨n1, n2, z1, z2, o⟩
  · rw [n1] at Ia
    clear n1
    go_wp2_with fail
    refine Ia.mono ?_
    rintro e w' ⟨rfl, rfl⟩
    go_wp2
    go_ret
    exact ⟨rfl, hb1⟩
  · rw [n1] at Ia
    rw [n2] at Ib
    clear n1 n2
    go_wp2_with fail
    refine Ia.mono ?_
    rintro e w' ⟨rfl, rfl⟩
    go_wp2_with fail
    refine Ib.mono ?_
    rintro e w' ⟨rfl, rfl⟩
    go_wp2
    go_ret
    exact ⟨rfl, hb1⟩
  · rw [n1] at Ia
    rw [n2] at Ib
    clear n1 n2
    go_wp2_with fail
    refine Ia.mono ?_
    rintro e w' ⟨rfl, rfl⟩
    go_wp2_with fail
    refine Ib.mono ?_
    rintro e w' ⟨rfl, rfl⟩
    go_wp2
    go_ret
    exact ⟨rfl, hb1⟩
  · rw [n1] at Ia
    rw [n2] at Ib
    clear n1 n2
    go_wp2_with fail
    refine Ia.mono ?_
    rintro e w' ⟨rfl, rfl⟩
    go_wp2_with fail
    refine Ib.mono ?_
    rintro e w' ⟨rfl, rfl⟩
    go_wp2_with fail
    refine Lab.mono ?_
    rintro e w' ⟨rfl, rfl⟩
    go_wp2
    go_ret
    exact ⟨rfl, hb1⟩
  · rw [n1] at Ia
    rw [n2] at Ib
    clear n1 n2
    go_wp2_with fail
    refine Ia.mono ?_
    rintro e w' ⟨rfl, rfl⟩
    go_wp2_with fail
    refine Ib.mono ?_
    rintro e w' ⟨rfl, rfl⟩
    go_wp2_with fail
    refine Lab.mono ?_
    rintro e w' ⟨rfl, rfl⟩
    go_wp2
    go_ret
    exact ⟨rfl, hb1⟩

set_option maxHeartbeats 4000000 in
theorem row10 (a b c : Nat) (w : World) (ha : a < 18446744073709551616) (hb : b < 18446744073709551616) (hc : c < 18446744073709551616) (hab : place a < place b) (hbc : place c < place b) (hac : place c < place a) :
    Calls Try.prog 5 #[.float .f64 a, .float .f64 b, .float .f64 c] w fun e w' => e = .returned (.bool true) ∧ Below w.heap.size w w' := by
  have tl := tail a b ha hb
  go_enter Try.func5, Try.ntmps5
  go_wp2_with fail
  refine (awake_any _).mono ?_
  rintro e w1 ⟨rfl, hb1⟩
  have Lab := less_any a b w1 ha hb
  rw [show lt a b = true from decide_eq_true (by omega)] at Lab
  have Lbc := less_any b c w1 hb hc
  rw [show lt b c = false from decide_eq_false (by omega)] at Lbc
  have Lac := less_any a c w1 ha hc
  rw [show lt a c = false from decide_eq_false (by omega)] at Lac
  have Lba := less_any b a w1 hb ha
  rw [show lt b a = false from decide_eq_false (by omega)] at Lba
  have Laa := less_any a a w1 ha ha
  rw [show lt a a = false from decide_eq_false (by omega)] at Laa
  have Sab := same_any a b w1 ha hb
  rw [show eq a b = false from decide_eq_false (by omega)] at Sab
  have Sbc := same_any b c w1 hb hc
  rw [show eq b c = false from decide_eq_false (by omega)] at Sbc
  have Sac := same_any a c w1 ha hc
  rw [show eq a c = false from decide_eq_false (by omega)] at Sac
  have Sba := same_any b a w1 hb ha
  rw [show eq b a = false from decide_eq_false (by omega)] at Sba
  have Saa := same_any a a w1 ha ha
  rw [show eq a a = true from decide_eq_true (by omega)] at Saa
  rw [show lt a b = true from decide_eq_true (by omega)] at tl
  have Ia := isNaN_any a w1 ha
  have Ib := isNaN_any b w1 hb
  clear hab hbc hac
  go_wp2_with fail
  refine Lab.mono ?_
  rintro e w' ⟨rfl, rfl⟩
  go_wp2_with fail
  refine Lbc.mono ?_
  rintro e w' ⟨rfl, rfl⟩
  go_wp2_with fail
  refine Laa.mono ?_
  rintro e w' ⟨rfl, rfl⟩
  go_wp2_with fail
  refine Saa.mono ?_
  rintro e w' ⟨rfl, rfl⟩
  go_wp2_with fail
  refine Sab.mono ?_
  rintro e w' ⟨rfl, rfl⟩
  go_wp2_with fail
  refine Sab.mono ?_
  rintro e w' ⟨rfl, rfl⟩
  go_wp2_with fail
  refine Lab.mono ?_
  rintro e w' ⟨rfl, rfl⟩
  go_wp2_with fail
  refine Sab.mono ?_
  rintro e w' ⟨rfl, rfl⟩
  rcases tl with n1 | ⟨n1, n2⟩ | ⟨n1, n2, z1, z2⟩ | ⟨n1, n2, z1, o⟩ | ⟨n1, n2, z1, z2, o⟩
  · rw [n1] at Ia
    clear n1
    go_wp2_with fail
    refine Ia.mono ?_
    rintro e w' ⟨rfl, rfl⟩
    go_wp2
    go_ret
    exact ⟨rfl, hb1⟩
  · rw [n1] at Ia
    rw [n2] at Ib
    clear n1 n2
    go_wp2_with fail
    refine Ia.mono ?_
    rintro e w' ⟨rfl, rfl⟩
    go_wp2_with fail
    refine Ib.mono ?_
    rintro e w' ⟨rfl, rfl⟩
    go_wp2
    go_ret
    exact ⟨rfl, hb1⟩
  · rw [n1] at Ia
    rw [n2] at Ib
    clear n1 n2
    go_wp2_with fail
    refine Ia.mono ?_
    rintro e w' ⟨rfl, rfl⟩
    go_wp2_with fail
    refine Ib.mono ?_
    rintro e w' ⟨rfl, rfl⟩
    go_wp2
    go_ret
    exact ⟨rfl, hb1⟩
  · rw [n1] at Ia
    rw [n2] at Ib
    clear n1 n2
    go_wp2_with fail
    refine Ia.mono ?_
    rintro e w' ⟨rfl, rfl⟩
    go_wp2_with fail
    refine Ib.mono ?_
    rintro e w' ⟨rfl, rfl⟩
    go_wp2_with fail
    refine Lab.mono ?_
    rintro e w' ⟨rfl, rfl⟩
    go_wp2
    go_ret
    exact ⟨rfl, hb1⟩
  · rw [n1] at Ia
    rw [n2] at Ib
    clear n1 n2
    go_wp2_with fail
    refine Ia.mono ?_
    rintro e w' ⟨rfl, rfl⟩
    go_wp2_with fail
    refine Ib.mono ?_
    rintro e w' ⟨rfl, rfl⟩
    go_wp2_with fail
    refine Lab.mono ?_
    rintro e w' ⟨rfl, rfl⟩
    go_wp2
    go_ret
    exact ⟨rfl, hb1⟩

set_option maxHeartbeats 4000000 in
theorem row11 (a b c : Nat) (w : World) (ha : a < 18446744073709551616) (hb : b < 18446744073709551616) (hc : c < 18446744073709551616) (hab : place b < place a) (hbc : place b < place c) (hac : place c < place a) :
    Calls Try.prog 5 #[.float .f64 a, .float .f64 b, .float .f64 c] w fun e w' => e = .returned (.bool true) ∧ Below w.heap.size w w' := by
  have tl := tail a b ha hb
  go_enter Try.func5, Try.ntmps5
  go_wp2_with fail
  refine (awake_any _).mono ?_
  rintro e w1 ⟨rfl, hb1⟩
  have Lab := less_any a b w1 ha hb
  rw [show lt a b = false from decide_eq_false (by omega)] at Lab
  have Lbc := less_any b c w1 hb hc
  rw [show lt b c = true from decide_eq_true (by omega)] at Lbc
  have Lac := less_any a c w1 ha hc
  rw [show lt a c = false from decide_eq_false (by omega)] at Lac
  have Lba := less_any b a w1 hb ha
  rw [show lt b a = true from decide_eq_true (by omega)] at Lba
  have Laa := less_any a a w1 ha ha
  rw [show lt a a = false from decide_eq_false (by omega)] at Laa
  have Sab := same_any a b w1 ha hb
  rw [show eq a b = false from decide_eq_false (by omega)] at Sab
  have Sbc := same_any b c w1 hb hc
  rw [show eq b c = false from decide_eq_false (by omega)] at Sbc
  have Sac := same_any a c w1 ha hc
  rw [show eq a c = false from decide_eq_false (by omega)] at Sac
  have Sba := same_any b a w1 hb ha
  rw [show eq b a = false from decide_eq_false (by omega)] at Sba
  have Saa := same_any a a w1 ha ha
  rw [show eq a a = true from decide_eq_true (by omega)] at Saa
  rw [show lt a b = false from decide_eq_false (by omega)] at tl
  have Ia := isNaN_any a w1 ha
  have Ib := isNaN_any b w1 hb
  clear hab hbc hac
  go_wp2_with fail
  refine Lab.mono ?_
  rintro e w' ⟨rfl, rfl⟩
  go_wp2_with fail
  refine Laa.mono ?_
  rintro e w' ⟨rfl, rfl⟩
  go_wp2_with fail
  refine Saa.mono ?_
  rintro e w' ⟨rfl, rfl⟩
  go_wp2_with fail
  refine Sab.mono ?_
  rintro e w' ⟨rfl, rfl⟩
  go_wp2_with fail
  refine Sab.mono ?_
  rintro e w' ⟨rfl, rfl⟩
  go_wp2_with fail
  refine Lab.mono ?_
  rintro e w' ⟨rfl, rfl⟩
  go_wp2_with fail
  refine Lba.mono ?_
  rintro e w' ⟨rfl, rfl⟩
  go_wp2_with fail
  refine Sab.mono ?_
  rintro e w' ⟨rfl, rfl⟩
  rcases tl with n1 | ⟨n1, n2⟩ | ⟨n1, n2, z1, z2⟩ | ⟨n1, n2, z1, o⟩ | ⟨n1, n2, z1, z2, o⟩
  · rw [n1] at Ia
    clear n1
    go_wp2_with fail
    refine Ia.mono ?_
    rintro e w' ⟨rfl, rfl⟩
    go_wp2
    go_ret
    exact ⟨rfl, hb1⟩
  · rw [n1] at Ia
    rw [n2] at Ib
    clear n1 n2
    go_wp2_with fail
    refine Ia.mono ?_
    rintro e w' ⟨rfl, rfl⟩
    go_wp2_with fail
    refine Ib.mono ?_
    rintro e w' ⟨rfl, rfl⟩
    go_wp2
    go_ret
    exact ⟨rfl, hb1⟩
  · rw [n1] at Ia
    rw [n2] at Ib
    clear n1 n2
    go_wp2_with fail
    refine Ia.mono ?_
    rintro e w' ⟨rfl, rfl⟩
    go_wp2_with fail
    refine Ib.mono ?_
    rintro e w' ⟨rfl, rfl⟩
    go_wp2
    go_ret
    exact ⟨rfl, hb1⟩
  · rw [n1] at Ia
    rw [n2] at Ib
    clear n1 n2
    go_wp2_with fail
    refine Ia.mono ?_
    rintro e w' ⟨rfl, rfl⟩
    go_wp2_with fail
    refine Ib.mono ?_
    rintro e w' ⟨rfl, rfl⟩
    go_wp2_with fail
    refine Lab.mono ?_
    rintro e w' ⟨rfl, rfl⟩
    go_wp2
    go_ret
    exact ⟨rfl, hb1⟩
  · rw [n1] at Ia
    rw [n2] at Ib
    clear n1 n2
    go_wp2_with fail
    refine Ia.mono ?_
    rintro e w' ⟨rfl, rfl⟩
    go_wp2_with fail
    refine Ib.mono ?_
    rintro e w' ⟨rfl, rfl⟩
    go_wp2_with fail
    refine Lab.mono ?_
    rintro e w' ⟨rfl, rfl⟩
    go_wp2
    go_ret
    exact ⟨rfl, hb1⟩

set_option maxHeartbeats 4000000 in
theorem row12 (a b c : Nat) (w : World) (ha : a < 18446744073709551616) (hb : b < 18446744073709551616) (hc : c < 18446744073709551616) (hab : place b < place a) (hbc : place c < place b) (hac : place c < place a) :
    Calls Try.prog 5 #[.float .f64 a, .float .f64 b, .float .f64 c] w fun e w' => e = .returned (.bool true) ∧ Below w.heap.size w w' := by
  have tl := tail a b ha hb
  go_enter Try.func5, Try.ntmps5
  go_wp2_with fail
  refine (awake_any _).mono ?_
  rintro e w1 ⟨rfl, hb1⟩
  have Lab := less_any a b w1 ha hb
  rw [show lt a b = false from decide_eq_false (by omega)] at Lab
  have Lbc := less_any b c w1 hb hc
  rw [show lt b c = false from decide_eq_false (by omega)] at Lbc
  have Lac := less_any a c w1 ha hc
  rw [show lt a c = false from decide_eq_false (by omega)] at Lac
  have Lba := less_any b a w1 hb ha
  rw [show lt b a = true from decide_eq_true (by omega)] at Lba
  have Laa := less_any a a w1 ha ha
  rw [show lt a a = false from decide_eq_false (by omega)] at Laa
  have Sab := same_any a b w1 ha hb
  rw [show eq a b = false from decide_eq_false (by omega)] at Sab
  have Sbc := same_any b c w1 hb hc
  rw [show eq b c = false from decide_eq_false (by omega)] at Sbc
  have Sac := same_any a c w1 ha hc
  rw [show eq a c = false from decide_eq_false (by omega)] at Sac
  have Sba := same_any b a w1 hb ha
  rw [show eq b a = false from decide_eq_false (by omega)] at Sba
  have Saa := same_any a a w1 ha ha
  rw [show eq a a = true from decide_eq_true (by omega)] at Saa
  rw [show lt a b = false from decide_eq_false (by omega)] at tl
  have Ia := isNaN_any a w1 ha
  have Ib := isNaN_any b w1 hb
  clear hab hbc hac
  go_wp2_with fail
  refine Lab.mono ?_
  rintro e w' ⟨rfl, rfl⟩
  go_wp2_with fail
  refine Laa.mono ?_
  rintro e w' ⟨rfl, rfl⟩
  go_wp2_with fail
  refine Saa.mono ?_
  rintro e w' ⟨rfl, rfl⟩
  go_wp2_with fail
  refine Sab.mono ?_
  rintro e w' ⟨rfl, rfl⟩
  go_wp2_with fail
  refine Sab.mono ?_
  rintro e w' ⟨rfl, rfl⟩
  go_wp2_with fail
  refine Lab.mono ?_
  rintro e w' ⟨rfl, rfl⟩
  go_wp2_with fail
  refine Lba.mono ?_
  rintro e w' ⟨rfl, rfl⟩
  go_wp2_with fail
  refine Sab.mono ?_
  rintro e w' ⟨rfl, rfl⟩
  rcases tl with n1 | ⟨n1, n2⟩ | ⟨n1, n2, z1, z2⟩ | ⟨n1, n2, z1, o⟩ | ⟨n1, n2, z1, z2, o⟩
  · rw [n1] at Ia
    clear n1
    go_wp2_with fail
    refine Ia.mono ?_
    rintro e w' ⟨rfl, rfl⟩
    go_wp2
    go_ret
    exact ⟨rfl, hb1⟩
  · rw [n1] at Ia
    rw [n2] at Ib
    clear n1 n2
    go_wp2_with fail
    refine Ia.mono ?_
    rintro e w' ⟨rfl, rfl⟩
    go_wp2_with fail
    refine Ib.mono ?_
    rintro e w' ⟨rfl, rfl⟩
    go_wp2
    go_ret
    exact ⟨rfl, hb1⟩
  · rw [n1] at Ia
    rw [n2] at Ib
    clear n1 n2
    go_wp2_with fail
    refine Ia.mono ?_
    rintro e w' ⟨rfl, rfl⟩
    go_wp2_with fail
    refine Ib.mono ?_
    rintro e w' ⟨rfl, rfl⟩
    go_wp2
    go_ret
    exact ⟨rfl, hb1⟩
  · rw [n1] at Ia
    rw [n2] at Ib
    clear n1 n2
    go_wp2_with fail
    refine Ia.mono ?_
    rintro e w' ⟨rfl, rfl⟩
    go_wp2_with fail
    refine Ib.mono ?_
    rintro e w' ⟨rfl, rfl⟩
    go_wp2_with fail
    refine Lab.mono ?_
    rintro e w' ⟨rfl, rfl⟩
    go_wp2
    go_ret
    exact ⟨rfl, hb1⟩
  · rw [n1] at Ia
    rw [n2] at Ib
    clear n1 n2
    go_wp2_with fail
    refine Ia.mono ?_
    rintro e w' ⟨rfl, rfl⟩
    go_wp2_with fail
    refine Ib.mono ?_
    rintro e w' ⟨rfl, rfl⟩
    go_wp2_with fail
    refine Lab.mono ?_
    rintro e w' ⟨rfl, rfl⟩
    go_wp2
    go_ret
    exact ⟨rfl, hb1⟩

theorem lt_of {a : Nat} (h : (Lit.float .f64 a).wf = true) : a < 18446744073709551616 := by
  simp only [Lit.wf, decide_eq_true_eq] at h
  exact h
theorem walk (a b c : Nat) (wa : (Lit.float .f64 a).wf = true) (wb : (Lit.float .f64 b).wf = true) (wc : (Lit.float .f64 c).wf = true) (w : World) :
    Calls Try.prog 5 #[.float .f64 a, .float .f64 b, .float .f64 c] w fun e w' => e = .returned (.bool true) ∧ Below w.heap.size w w' := by
  have ha := lt_of wa
  have hb := lt_of wb
  have hc := lt_of wc
  clear wa wb wc
  rcases Int.lt_trichotomy (place a) (place b) with x | x | x <;> rcases Int.lt_trichotomy (place b) (place c) with y | y | y <;> rcases Int.lt_trichotomy (place a) (place c) with z | z | z <;>
    first
    | exact row0 a b c w ha hb hc (by omega) (by omega) (by omega)
    | exact row1 a b c w ha hb hc (by omega) (by omega) (by omega)
    | exact row2 a b c w ha hb hc (by omega) (by omega) (by omega)
    | exact row3 a b c w ha hb hc (by omega) (by omega) (by omega)
    | exact row4 a b c w ha hb hc (by omega) (by omega) (by omega)
    | exact row5 a b c w ha hb hc (by omega) (by omega) (by omega)
    | exact row6 a b c w ha hb hc (by omega) (by omega) (by omega)
    | exact row7 a b c w ha hb hc (by omega) (by omega) (by omega)
    | exact row8 a b c w ha hb hc (by omega) (by omega) (by omega)
    | exact row9 a b c w ha hb hc (by omega) (by omega) (by omega)
    | exact row10 a b c w ha hb hc (by omega) (by omega) (by omega)
    | exact row11 a b c w ha hb hc (by omega) (by omega) (by omega)
    | exact row12 a b c w ha hb hc (by omega) (by omega) (by omega)
    | (exfalso; omega)

theorem own : ownKnob Try.prog.godebug = none := by kernel_rfl

set_option maxRecDepth 100000 in
theorem lifted (os : Os) (started : os.Started) (H : Type) (enc : TypeId × Value → H) :
    ReturnsInHanded {} Try.checked os 5 .any (Rows.realRowSpec.pre6 enc Try.prog Try.f5 Rows.realRowRow.domain false) (Rows.realRowSpec.post enc Try.prog Try.f5 false true false false) := by
  refine returnsInHanded_of_change (C := Try.checked) own started (by kernel_rfl) Try.func5
    (ChangeSpec.witness6 (enc := enc) (C := Try.checked) false ⟨#[], #[.float .f64 0, .float .f64 0, .float .f64 0], []⟩ 8 (by kernel_rfl) (by kernel_rfl) (by kernel_rfl) (by kernel_rfl)) ?_
  intro W base args ds gs before hval0 hW hcnd _
  have hval : ∀ (j : Nat) t v, Try.f5.params[j]? = some t → args[j]? = some v → Value.okWide Try.prog W .any base t v := hval0
  have hW' := hW
  obtain ⟨p, q, hA0, hV, rfl, hfz, hnd⟩ := hW
  have hA : DataW.TrodAll enc Try.prog W 0 (fun _ => true) true Try.f5.params.toList args.toList ds p := hA0
  rw [Try.params5] at hA hval
  obtain ⟨v0, vs0, d0, ds0, p0, q0, hargs, rfl, rfl, h0, r0⟩ := trodAll_cons hA
  obtain ⟨v1, vs1, d1, ds1, p1, q1, rfl, rfl, rfl, h1, r1⟩ := trodAll_cons r0
  obtain ⟨v2, vs2, d2, ds2, p2, q2, rfl, rfl, rfl, h2, r2⟩ := trodAll_cons r1
  obtain ⟨rfl, rfl, rfl⟩ := trodAll_nil r2
  obtain rfl : args = #[v0, v1, v2] := by cases args; simp_all
  obtain ⟨rfl, rfl⟩ := trodVars_none hV
  obtain ⟨a0, rfl, rfl, rfl, w0⟩ := open_float Try.underlying22 (hval 0 22 v0 rfl rfl) h0
  obtain ⟨a1, rfl, rfl, rfl, w1⟩ := open_float Try.underlying22 (hval 1 22 v1 rfl rfl) h1
  obtain ⟨a2, rfl, rfl, rfl, w2⟩ := open_float Try.underlying22 (hval 2 22 v2 rfl rfl) h2
  clear hA0 hval0
  simp only [List.append_nil] at hW'
  refine (walk a0 a1 a2 w0 w1 w2 W).mono fun e W' ⟨he, bel⟩ => ?_
  subst he
  exact ⟨_, rfl, _, _, _, [], _, [], hW', trodAll_mk1 (shut_bool Try.underlying4 _), (trodAll_cons_mk (shut_float Try.underlying22 w0) (trodAll_cons_mk (shut_float Try.underlying22 w1) (trodAll_cons_mk (shut_float Try.underlying22 w2) trodAll_mk0))), rfl, bel.frame _, fun h => by cases h⟩

theorem over : Rows.realRowRow.holds Try.pinned (OpenSpec.ofChange Rows.realRowSpec) :=
  OpenClaim.holds_of_wide 5 Try.f5 rfl rfl rfl rfl rfl rfl rfl ⟨rfl, rfl, rfl, rfl, rfl⟩ rfl rfl rfl rfl rfl (by kernel_rfl) Try.func5 (by kernel_rfl)
    (of_decide_eq_true (by kernel_rfl)) (by unfold Func.isWrapper; first | (rw [if_pos (by decide +kernel)]; kernel_rfl) | (rw [if_neg (by decide +kernel)]; exact ⟨rfl, rfl⟩))
    (fun os started H enc _ => lifted os started H enc)

theorem proved : Rows.RealRowSaid :=
  over
#print axioms proved
end Go.Proofs.Ytmfhokbognlhbaa.realRow
