/-
  Contracts of mancipleref05.Class, and of Less, Same, Clean of both, and of Alike: all by the places of the numbers.
-/
import Derived.Test.YthocpkmlfkbiaaaRlLeaf
namespace Go.Proofs.Ythocpkmlfkbiaaa.Rl
open Go.RowKit
set_option linter.unusedVariables false

theorem size_bits (x : Nat) (hx : x < 18446744073709551616) : IntKind.u64.wrap ((x : Int) * 2) / 2 = (rg x : Int) := by
  rw [IntKind.wrap_u64]; unfold rg; omega
set_option maxHeartbeats 800000 in
theorem refclass_any (x : Nat) (w : World) (hx : x < 18446744073709551616) :
    Calls Try.prog 27 #[.float .f64 x] w fun e w' => e = .returned (.int .i64 (cls (place x))) ∧ w = w' := by
  have r1 := run_bits
  have s2 := size_bits x hx
  have rl := rg_lt x
  by_cases c0 : 9218868437227405312 < rg x
  · have e : cls (place x) = 1 := by unfold place; rw [if_pos c0]; rfl
    have d1 : (9218868437227405312 : Int) < (rg x : Int) := by omega
    rw [e]
    clear e
    go_enter Try.func27, Try.ntmps27
    go_wp2
    all_goals go_ret
    all_goals exact ⟨rfl, rfl⟩
  have d1 : ¬ (9218868437227405312 : Int) < (rg x : Int) := by omega
  by_cases c1 : rg x = 9218868437227405312
  · have d2 : (rg x : Int) = 9218868437227405312 := by omega
    by_cases h : 9223372036854775808 ≤ x
    · have s1 : ((x : Int) / 9223372036854775808 == 1) = true := by rw [beq_iff_eq]; omega
      have e : cls (place x) = 2 := by
        unfold place
        rw [if_neg c0, if_pos h]
        unfold cls
        (repeat (first | rw [if_pos (by omega)] | rw [if_neg (by omega)]))
      rw [e]
      clear e h
      go_enter Try.func27, Try.ntmps27
      go_wp2
      all_goals go_ret
      all_goals exact ⟨rfl, rfl⟩
    · have s1 : ((x : Int) / 9223372036854775808 == 1) = false := by rw [beq_eq_false_iff_ne]; omega
      have e : cls (place x) = 7 := by
        unfold place
        rw [if_neg c0, if_neg h]
        unfold cls
        (repeat (first | rw [if_pos (by omega)] | rw [if_neg (by omega)]))
      rw [e]
      clear e h
      go_enter Try.func27, Try.ntmps27
      go_wp2
      all_goals go_ret
      all_goals exact ⟨rfl, rfl⟩
  have d2 : ¬ (rg x : Int) = 9218868437227405312 := by omega
  by_cases c2 : rg x = 0
  · have d3 : (rg x : Int) = 0 := by omega
    by_cases h : 9223372036854775808 ≤ x
    · have s1 : ((x : Int) / 9223372036854775808 == 1) = true := by rw [beq_iff_eq]; omega
      have e : cls (place x) = 4 := by
        unfold place
        rw [if_neg c0, if_pos h]
        unfold cls
        (repeat (first | rw [if_pos (by omega)] | rw [if_neg (by omega)]))
      rw [e]
      clear e h
      go_enter Try.func27, Try.ntmps27
      go_wp2
      all_goals go_ret
      all_goals exact ⟨rfl, rfl⟩
    · have s1 : ((x : Int) / 9223372036854775808 == 1) = false := by rw [beq_eq_false_iff_ne]; omega
      have e : cls (place x) = 5 := by
        unfold place
        rw [if_neg c0, if_neg h]
        unfold cls
        (repeat (first | rw [if_pos (by omega)] | rw [if_neg (by omega)]))
      rw [e]
      clear e h
      go_enter Try.func27, Try.ntmps27
      go_wp2
      all_goals go_ret
      all_goals exact ⟨rfl, rfl⟩
  have d3 : ¬ (rg x : Int) = 0 := by omega
  by_cases h : 9223372036854775808 ≤ x
  · have s1 : ((x : Int) / 9223372036854775808 == 1) = true := by rw [beq_iff_eq]; omega
    have e : cls (place x) = 3 := by
      unfold place
      rw [if_neg c0, if_pos h]
      unfold cls
      (repeat (first | rw [if_pos (by omega)] | rw [if_neg (by omega)]))
    rw [e]
    clear e h
    go_enter Try.func27, Try.ntmps27
    go_wp2
    all_goals go_ret
    all_goals exact ⟨rfl, rfl⟩
  · have s1 : ((x : Int) / 9223372036854775808 == 1) = false := by rw [beq_eq_false_iff_ne]; omega
    have e : cls (place x) = 6 := by
      unfold place
      rw [if_neg c0, if_neg h]
      unfold cls
      (repeat (first | rw [if_pos (by omega)] | rw [if_neg (by omega)]))
    rw [e]
    clear e h
    go_enter Try.func27, Try.ntmps27
    go_wp2
    all_goals go_ret
    all_goals exact ⟨rfl, rfl⟩

theorem cls_of (p : Int) (h : p = -9223372036854775808 ∨ -9218868437227405313 ≤ p ∧ p ≤ 9218868437227405312) :
    (p = -9223372036854775808 ∧ cls p = 1) ∨ (p = -9218868437227405313 ∧ cls p = 2) ∨ (-9218868437227405313 < p ∧ p < -1 ∧ cls p = 3) ∨ (p = -1 ∧ cls p = 4) ∨ (p = 0 ∧ cls p = 5) ∨ (0 < p ∧ p < 9218868437227405312 ∧ cls p = 6) ∨ (p = 9218868437227405312 ∧ cls p = 7) := by
  unfold cls
  (repeat' split) <;> omega
/-- whether a number stands ahead of another -/
def lt (x y : Nat) : Bool := decide (place x < place y)
def eq (x y : Nat) : Bool := decide (place x = place y)

theorem lt_same (x y : Nat) (hx : x < 18446744073709551616) (hy : y < 18446744073709551616) (h : cls (place x) = cls (place y)) :
    (FloatKind.f64.format.order x y == some .lt) = lt x y := by
  rw [ord_lt x y hx hy]
  have a := cls_of _ (place_range x hx)
  have b := cls_of _ (place_range y hy)
  unfold lt kp
  generalize place x = p at *
  generalize place y = q at *
  congr 1
  apply propext
  (repeat' split) <;> omega
theorem lt_diff (x y : Nat) (hx : x < 18446744073709551616) (hy : y < 18446744073709551616) (h : ¬ cls (place x) = cls (place y)) :
    lt x y = decide (cls (place x) < cls (place y)) := by
  have a := cls_of _ (place_range x hx)
  have b := cls_of _ (place_range y hy)
  unfold lt
  generalize place x = p at *
  generalize place y = q at *
  congr 1
  apply propext
  omega

theorem less_any (x y : Nat) (w : World) (hx : x < 18446744073709551616) (hy : y < 18446744073709551616) :
    Calls Try.prog 31 #[.float .f64 x, .float .f64 y] w fun e w' => e = .returned (.bool (lt x y)) ∧ w = w' := by
  have c1 := class_any x w hx
  have c2 := class_any y w hy
  by_cases h : cls (place x) = cls (place y)
  · have l := lt_same x y hx hy h
    go_enter Try.func31, Try.ntmps31
    go_wp2_with fail
    refine c1.mono ?_
    rintro e w' ⟨rfl, rfl⟩
    go_wp2_with fail
    refine c2.mono ?_
    rintro e w' ⟨rfl, rfl⟩
    clear c1 c2
    go_wp2
    all_goals go_ret
    all_goals exact ⟨rfl, rfl⟩
  · rw [lt_diff x y hx hy h]
    go_enter Try.func31, Try.ntmps31
    go_wp2_with fail
    refine c1.mono ?_
    rintro e w' ⟨rfl, rfl⟩
    go_wp2_with fail
    refine c2.mono ?_
    rintro e w' ⟨rfl, rfl⟩
    clear c1 c2
    go_wp2
    all_goals go_ret
    all_goals exact ⟨rfl, rfl⟩

theorem place_neg (x : Nat) (hx : x < 18446744073709551616) (h : cls (place x) = 3) : place x = 9223372036854775807 - (x : Int) := by
  have r := rg_lt x
  have b := cls_of _ (place_range x hx)
  unfold place at *
  unfold rg at *
  (repeat' split at *) <;> omega
theorem place_pos (x : Nat) (hx : x < 18446744073709551616) (h : cls (place x) = 6) : place x = (x : Int) := by
  have r := rg_lt x
  have b := cls_of _ (place_range x hx)
  unfold place at *
  unfold rg at *
  (repeat' split at *) <;> omega

set_option maxHeartbeats 800000 in
theorem refless_any (x y : Nat) (w : World) (hx : x < 18446744073709551616) (hy : y < 18446744073709551616) :
    Calls Try.prog 34 #[.float .f64 x, .float .f64 y] w fun e w' => e = .returned (.bool (lt x y)) ∧ w = w' := by
  have c1 := refclass_any x w hx
  have c2 := refclass_any y w hy
  have r1 := run_bits
  by_cases h : cls (place x) = cls (place y)
  · rw [← h] at c2
    by_cases h3 : cls (place x) = 3
    · have l : lt x y = decide (y < x) := by
        unfold lt; rw [place_neg x hx h3, place_neg y hy (by omega)]; congr 1; apply propext; omega
      rw [l]
      rw [h3] at c1 c2
      clear l h3 h
      go_enter Try.func34, Try.ntmps34
      go_wp2_with fail
      refine c1.mono ?_
      rintro e w' ⟨rfl, rfl⟩
      go_wp2_with fail
      refine c2.mono ?_
      rintro e w' ⟨rfl, rfl⟩
      clear c1 c2
      go_wp2
      all_goals go_ret
      all_goals exact ⟨rfl, rfl⟩
    · by_cases h6 : cls (place x) = 6
      · have l : lt x y = decide (x < y) := by
          unfold lt; rw [place_pos x hx h6, place_pos y hy (by omega)]; congr 1; apply propext; omega
        rw [l]
        rw [h6] at c1 c2
        clear l h6 h3 h
        go_enter Try.func34, Try.ntmps34
        go_wp2_with fail
        refine c1.mono ?_
        rintro e w' ⟨rfl, rfl⟩
        go_wp2_with fail
        refine c2.mono ?_
        rintro e w' ⟨rfl, rfl⟩
        clear c1 c2
        go_wp2
        all_goals go_ret
        all_goals exact ⟨rfl, rfl⟩
      · have l : lt x y = false := by
          have a := cls_of _ (place_range x hx)
          have b := cls_of _ (place_range y hy)
          unfold lt; rw [decide_eq_false]; omega
        rw [l]
        generalize cls (place x) = k at *
        clear l h
        go_enter Try.func34, Try.ntmps34
        go_wp2_with fail
        refine c1.mono ?_
        rintro e w' ⟨rfl, rfl⟩
        go_wp2_with fail
        refine c2.mono ?_
        rintro e w' ⟨rfl, rfl⟩
        clear c1 c2
        go_wp2
        all_goals go_ret
        all_goals exact ⟨rfl, rfl⟩
  · rw [lt_diff x y hx hy h]
    go_enter Try.func34, Try.ntmps34
    go_wp2_with fail
    refine c1.mono ?_
    rintro e w' ⟨rfl, rfl⟩
    go_wp2_with fail
    refine c2.mono ?_
    rintro e w' ⟨rfl, rfl⟩
    clear c1 c2
    go_wp2
    all_goals go_ret
    all_goals exact ⟨rfl, rfl⟩

theorem eq_lt (x y : Nat) : eq x y = (!lt x y && !lt y x) := by
  unfold eq lt
  by_cases a : place x < place y
  · rw [decide_eq_true a, decide_eq_false (by omega)]; rfl
  · by_cases b : place y < place x
    · rw [decide_eq_false a, decide_eq_true b, decide_eq_false (by omega)]; rfl
    · rw [decide_eq_false a, decide_eq_false b, decide_eq_true (by omega)]; rfl
theorem same_any (x y : Nat) (w : World) (hx : x < 18446744073709551616) (hy : y < 18446744073709551616) :
    Calls Try.prog 25 #[.float .f64 x, .float .f64 y] w fun e w' => e = .returned (.bool (eq x y)) ∧ w = w' := by
  rw [eq_lt x y]
  have c1 := less_any x y w hx hy
  have c2 := less_any y x w hy hx
  cases h : lt x y
  · rw [h] at c1
    clear h
    go_enter Try.func25, Try.ntmps25
    go_wp2_with fail
    refine c1.mono ?_
    rintro e w' ⟨rfl, rfl⟩
    go_wp2_with fail
    refine c2.mono ?_
    rintro e w' ⟨rfl, rfl⟩
    clear c1 c2
    go_wp2
    all_goals go_ret
    all_goals exact ⟨by simp, rfl⟩
  · rw [h] at c1
    clear h
    go_enter Try.func25, Try.ntmps25
    go_wp2_with fail
    refine c1.mono ?_
    rintro e w' ⟨rfl, rfl⟩
    clear c1 c2
    go_wp2
    all_goals go_ret
    all_goals exact ⟨rfl, rfl⟩

/-- a number without its edges -/
def cl (x : Nat) : Nat := if cls (place x) = 1 then 9221120237041090560 else if cls (place x) = 4 ∨ cls (place x) = 5 then 0 else x
theorem clean_any (x : Nat) (w : World) (hx : x < 18446744073709551616) :
    Calls Try.prog 32 #[.float .f64 x] w fun e w' => e = .returned (.float .f64 (cl x)) ∧ w = w' := by
  have c := class_any x w hx
  have n := nan_any w
  unfold cl
  generalize cls (place x) = k at *
  by_cases h1 : k = 1
  · subst h1
    go_enter Try.func32, Try.ntmps32
    go_wp2_with fail
    refine c.mono ?_
    rintro e w' ⟨rfl, rfl⟩
    go_wp2_with fail
    refine n.mono ?_
    rintro e w' ⟨rfl, rfl⟩
    go_wp2
    all_goals go_ret
    all_goals exact ⟨rfl, rfl⟩
  rw [if_neg h1]
  by_cases h4 : k = 4
  · subst h4
    go_enter Try.func32, Try.ntmps32
    go_wp2_with fail
    refine c.mono ?_
    rintro e w' ⟨rfl, rfl⟩
    clear c n
    go_wp2
    all_goals go_ret
    all_goals exact ⟨rfl, rfl⟩
  by_cases h5 : k = 5
  · subst h5
    go_enter Try.func32, Try.ntmps32
    go_wp2_with fail
    refine c.mono ?_
    rintro e w' ⟨rfl, rfl⟩
    clear c n
    go_wp2
    all_goals go_ret
    all_goals exact ⟨rfl, rfl⟩
  rw [if_neg (by omega)]
  go_enter Try.func32, Try.ntmps32
  go_wp2_with fail
  refine c.mono ?_
  rintro e w' ⟨rfl, rfl⟩
  clear c n
  go_wp2
  all_goals go_ret
  all_goals exact ⟨rfl, rfl⟩

theorem zero_bits (x : Nat) (hx : x < 18446744073709551616) (h : cls (place x) = 5) : x = 0 := by
  have r := rg_lt x
  have b := cls_of _ (place_range x hx)
  unfold place at *
  unfold rg at *
  (repeat' split at *) <;> omega
theorem refclean_any (x : Nat) (w : World) (hx : x < 18446744073709551616) :
    Calls Try.prog 35 #[.float .f64 x] w fun e w' => e = .returned (.float .f64 (cl x)) ∧ w = w' := by
  have c := refclass_any x w hx
  have n := refnan_any w
  have z := zero_bits x hx
  have r2 := run_from
  unfold cl
  generalize cls (place x) = k at *
  by_cases h1 : k = 1
  · subst h1
    clear z
    go_enter Try.func35, Try.ntmps35
    go_wp2_with fail
    refine c.mono ?_
    rintro e w' ⟨rfl, rfl⟩
    go_wp2_with fail
    refine n.mono ?_
    rintro e w' ⟨rfl, rfl⟩
    go_wp2
    all_goals go_ret
    all_goals exact ⟨rfl, rfl⟩
  rw [if_neg h1]
  by_cases h4 : k = 4
  · subst h4
    clear z
    go_enter Try.func35, Try.ntmps35
    go_wp2_with fail
    refine c.mono ?_
    rintro e w' ⟨rfl, rfl⟩
    clear c n
    go_wp2
    all_goals go_ret
    all_goals exact ⟨rfl, rfl⟩
  have e : (if k = 4 ∨ k = 5 then 0 else x) = x := by
    by_cases h5 : k = 5
    · rw [if_pos (Or.inr h5), z h5]
    · rw [if_neg (by omega)]
  rw [e]
  clear z e
  go_enter Try.func35, Try.ntmps35
  go_wp2_with fail
  refine c.mono ?_
  rintro e w' ⟨rfl, rfl⟩
  clear c n
  go_wp2
  all_goals go_ret
  all_goals exact ⟨rfl, rfl⟩

/-- whether two are one to the bit, or no numbers both -/
def ali (x y : Nat) : Bool := decide (x = y) || (decide (cls (place x) = 1) && decide (cls (place y) = 1))
theorem alike_any (x y : Nat) (w : World) (hx : x < 18446744073709551616) (hy : y < 18446744073709551616) :
    Calls Try.prog 18 #[.float .f64 x, .float .f64 y] w fun e w' => e = .returned (.bool (ali x y)) ∧ w = w' := by
  have c1 := refclass_any x w hx
  have c2 := refclass_any y w hy
  have r1 := run_bits
  unfold ali
  by_cases h : x = y
  · have i : (x : Int) = (y : Int) := by omega
    rw [decide_eq_true h]
    go_enter Try.func18, Try.ntmps18
    clear c1 c2
    go_wp2
    all_goals go_ret
    all_goals exact ⟨rfl, rfl⟩
  · have i : ((x : Int) == (y : Int)) = false := beq_eq_false_iff_ne.2 (by omega)
    rw [decide_eq_false h]
    clear h
    generalize cls (place x) = k at *
    generalize cls (place y) = l at *
    by_cases h1 : k = 1
    · subst h1
      go_enter Try.func18, Try.ntmps18
      go_wp2_with fail
      refine c1.mono ?_
      rintro e w' ⟨rfl, rfl⟩
      go_wp2_with fail
      refine c2.mono ?_
      rintro e w' ⟨rfl, rfl⟩
      clear c1 c2
      go_wp2
      all_goals go_ret
      all_goals exact ⟨by simp; rfl, rfl⟩
    · rw [decide_eq_false h1]
      have i1 : (k == 1) = false := beq_eq_false_iff_ne.2 h1
      go_enter Try.func18, Try.ntmps18
      go_wp2_with fail
      refine c1.mono ?_
      rintro e w' ⟨rfl, rfl⟩
      clear c1 c2
      go_wp2
      all_goals go_ret
      all_goals exact ⟨rfl, rfl⟩
end Go.Proofs.Ythocpkmlfkbiaaa.Rl
