/-
  RealBetween is true for every three numbers, all bits: what is clamped lies between its bounds, what is clean stays so, a mean that takes nothing stays. No conditions.
-/
import Derived.Test.YtmfhokbognlhbaaRlLdexp
import Derived.ProofKit
import Derived.OpenShut
import Derived.ShutString
namespace Go.Proofs.Ytmfhokbognlhbaa.realBetween
open Go.ChangeShapes Go.WideShapes Go.ChangeAt Go.RowKit Go.PlainAid Go.Proofs.Ytmfhokbognlhbaa.Rl
open Go.ChangeMaps (open_string shut_string)
set_option linter.unusedVariables false

theorem lt_of {a : Nat} (h : (Lit.float .f64 a).wf = true) : a < 18446744073709551616 := by
  simp only [Lit.wf, decide_eq_true_eq] at h
  exact h
theorem clamp_cases (x lo hi : Nat) : isN (clamp x lo hi) = true ∨
    (isN (clamp x lo hi) = false ∧ lt (clamp x lo hi) lo = false ∧ lt hi (clamp x lo hi) = false ∧ lt x lo = true) ∨
    (isN (clamp x lo hi) = false ∧ lt (clamp x lo hi) lo = false ∧ lt hi (clamp x lo hi) = false ∧ lt x lo = false ∧ lt hi x = true) ∨
    (isN (clamp x lo hi) = false ∧ lt (clamp x lo hi) lo = false ∧ lt hi (clamp x lo hi) = false ∧ lt x lo = false ∧ lt hi x = false ∧ eq (clamp x lo hi) x = true) := by
  have self : ∀ z, lt z z = false := fun z => decide_eq_false (by omega)
  unfold clamp
  cases nx : isN x
  · cases nl : isN lo
    · cases nh : isN hi
      · cases hl : lt hi lo
        · rw [if_neg (by decide)]
          cases c1 : lt x lo
          · rw [if_neg (by decide)]
            cases c2 : lt hi x
            · rw [if_neg (by decide)]
              exact .inr (.inr (.inr ⟨nx, c1, c2, rfl, rfl, decide_eq_true rfl⟩))
            · rw [if_pos rfl]
              exact .inr (.inr (.inl ⟨nh, hl, self hi, rfl, rfl⟩))
          · rw [if_pos rfl]
            exact .inr (.inl ⟨nl, self lo, hl, rfl⟩)
        · left; rw [if_pos (by decide)]; decide
      · left; rw [if_pos (by cases lt hi lo <;> rfl)]; decide
    · left; rw [if_pos (by cases isN hi <;> cases lt hi lo <;> rfl)]; decide
  · left; rw [if_pos (by cases isN lo <;> cases isN hi <;> cases lt hi lo <;> rfl)]; decide
theorem cl_place (x : Nat) (hx : x < 18446744073709551616) : (cls (place (cl x)) == 4) = false ∧ cl (cl x) = cl x := by
  have n : cl 9221120237041090560 = 9221120237041090560 := by decide
  have z : cl 0 = 0 := by decide
  unfold cl
  by_cases h1 : cls (place x) = 1
  · rw [if_pos h1]; exact ⟨by decide, n⟩
  · rw [if_neg h1]
    by_cases h2 : cls (place x) = 4 ∨ cls (place x) = 5
    · rw [if_pos h2]; exact ⟨by decide, z⟩
    · rw [if_neg h2, if_neg h1, if_neg h2]; exact ⟨beq_eq_false_iff_ne.2 (by omega), rfl⟩
theorem place_rung (x : Nat) (h : rg x ≤ 9218868437227405312) : place (rg x) = (rg x : Int) := by
  have r := rg_lt x
  have e : rg (rg x) = rg x := by unfold rg; omega
  unfold place; rw [e, if_neg (by omega), if_neg (by omega)]
theorem num_rg (x : Nat) (hx : x < 18446744073709551616) (h : isN x = false) : rg x ≤ 9218868437227405312 := by
  apply Nat.le_of_not_lt
  intro c
  rw [isN_of x c] at h; cases h
theorem abs_gt (x : Nat) (hx : x < 18446744073709551616) (h : isN x = false) : (FloatKind.f64.format.order (rg x) 9110782046170513408 == some .gt) = decide (9110782046170513408 < rg x) := by
  have r := rg_lt x
  have n := num_rg x hx h
  rw [ord_gt (rg x) _ (by omega) (by decide), place_rung x n, show kp (place 9110782046170513408) = 9110782046170513408 by decide, show place 9110782046170513408 = 9110782046170513408 by decide]
  congr 1; apply propext; unfold kp
  rw [if_neg (by omega)]; omega
theorem clean_eq (x : Nat) (hx : x < 18446744073709551616) (h : isN x = false) : (FloatKind.f64.format.order (cl x) x == some .eq) = true := by
  rw [ord_eq _ _ (cl_lt x hx) hx]
  have b := cls_of _ (place_range x hx)
  rw [isN_cls x hx] at h
  have h1 := of_decide_eq_false h
  apply decide_eq_true
  unfold cl
  rw [if_neg h1]
  by_cases h2 : cls (place x) = 4 ∨ cls (place x) = 5
  · rw [if_pos h2, show place 0 = 0 by decide]
    refine ⟨by decide, by omega, ?_⟩
    unfold kp; (repeat' split) <;> omega
  · rw [if_neg h2]; exact ⟨by omega, by omega, rfl⟩
theorem wbad_zero : wbad 0 = false := by decide +kernel
theorem wbad_half : wbad 4602678819172646912 = false := by decide +kernel
theorem wbad_inf : wbad 9218868437227405312 = true := by decide +kernel
theorem isN_lib : isN 9221120237041090561 = true := by decide
theorem mix_stays (lo hi : Nat) (hl : lo < 18446744073709551616) (hh : hi < 18446744073709551616) (nl : isN lo = false) (nh : isN hi = false) (a : ¬ 9110782046170513408 < rg lo) (b : ¬ 9110782046170513408 < rg hi) : mixR lo hi 0 = cl lo := by
  unfold mixR
  rw [wbad_zero, nl, nh]
  simp only [Bool.false_eq_true, if_false]
  exact mixv_zero lo hi hl hh (by omega) (by omega)
theorem mix_comes (hi : Nat) : mixR 9221120237041090561 hi 4602678819172646912 = cl hi := by
  unfold mixR
  rw [wbad_half, isN_lib]; rfl
theorem mix_none (lo : Nat) (nl : isN lo = false) : mixR lo 9221120237041090561 4602678819172646912 = cl lo := by
  unfold mixR
  rw [wbad_half, isN_lib, nl]; rfl
theorem mix_bad (lo hi : Nat) : mixR lo hi 9218868437227405312 = 9221120237041090560 := by
  unfold mixR
  rw [wbad_inf]; rfl

set_option maxHeartbeats 8000000 in
theorem goN (x lo hi : Nat) (w : World) (hx : x < 18446744073709551616) (hl : lo < 18446744073709551616) (hh : hi < 18446744073709551616) (k1 : isN (clamp x lo hi) = true) :
    Calls Try.prog 7 #[.float .f64 x, .float .f64 lo, .float .f64 hi] w fun e w' => e = .returned (.bool true) ∧ Below w.heap.size w w' := by
  have hc := clamp_lt x lo hi hx hl hh
  have C := fun w => clamp_any x lo hi w hx hl hh
  have I := fun w => isNaN_any (clamp x lo hi) w hc
  have Lcl := fun w => less_any (clamp x lo hi) lo w hc hl
  have Lhc := fun w => less_any hi (clamp x lo hi) w hh hc
  have Lxl := fun w => less_any x lo w hx hl
  have Lhx := fun w => less_any hi x w hh hx
  have S := fun w => same_any (clamp x lo hi) x w hc hx
  simp only [k1] at I
  obtain ⟨m1, m2⟩ := cl_place x hx
  have Nx := fun w => clean_any x w hx
  have Nc := fun w => clean_any (cl x) w (cl_lt x hx)
  simp only [m2] at Nc
  have Sc := fun w => same_any (cl x) (cl x) w (cl_lt x hx) (cl_lt x hx)
  simp only [show eq (cl x) (cl x) = true from decide_eq_true rfl] at Sc
  have Kc := fun w => class_any (cl x) w (cl_lt x hx)
  have Il := fun w => isNaN_any lo w hl
  have Ih := fun w => isNaN_any hi w hh
  have Al := fun w => abs_any lo w hl
  have Ah := fun w => abs_any hi w hh
  have Nl := fun w => clean_any lo w hl
  have Nh := fun w => clean_any hi w hh
  have Sl := fun w => same_any (cl lo) (cl lo) w (cl_lt lo hl) (cl_lt lo hl)
  simp only [show eq (cl lo) (cl lo) = true from decide_eq_true rfl] at Sl
  have Sh := fun w => same_any (cl hi) (cl hi) w (cl_lt hi hh) (cl_lt hi hh)
  simp only [show eq (cl hi) (cl hi) = true from decide_eq_true rfl] at Sh
  have M1 := fun w => mix_any lo hi 0 w hl hh (by decide)
  have M2 := fun w => mix_any 9221120237041090561 hi 4602678819172646912 w (by decide) hh (by decide)
  simp only [mix_comes hi] at M2
  have M3 := fun w => mix_any lo 9221120237041090561 4602678819172646912 w hl (by decide) (by decide)
  have M4 := fun w => mix_any lo hi 9218868437227405312 w hl hh (by decide)
  simp only [mix_bad lo hi] at M4
  have V := fun w => inf_any 1 w
  simp only [show (if (0 : Int) ≤ 1 then 9218868437227405312 else 18442240474082181120 : Nat) = 9218868437227405312 from rfl] at V
  have In := fun w => isNaN_any 9221120237041090560 w (by decide)
  simp only [show isN 9221120237041090560 = true by decide] at In
  have tl : isN lo = true ∨ (isN lo = false ∧ isN hi = true) ∨
      (isN lo = false ∧ isN hi = false ∧ (FloatKind.f64.format.order (rg lo) 9110782046170513408 == some .gt) = true) ∨
      (isN lo = false ∧ isN hi = false ∧ (FloatKind.f64.format.order (rg lo) 9110782046170513408 == some .gt) = false ∧ (FloatKind.f64.format.order (rg hi) 9110782046170513408 == some .gt) = true) ∨
      (isN lo = false ∧ isN hi = false ∧ (FloatKind.f64.format.order (rg lo) 9110782046170513408 == some .gt) = false ∧ (FloatKind.f64.format.order (rg hi) 9110782046170513408 == some .gt) = false ∧ mixR lo hi 0 = cl lo ∧ mixR lo 9221120237041090561 4602678819172646912 = cl lo ∧ (FloatKind.f64.format.order (cl lo) lo == some .eq) = true) := by
    cases n1 : isN lo
    · cases n2 : isN hi
      · rw [abs_gt lo hl n1, abs_gt hi hh n2]
        by_cases g1 : 9110782046170513408 < rg lo
        · right; right; left; exact ⟨rfl, rfl, decide_eq_true g1⟩
        · by_cases g2 : 9110782046170513408 < rg hi
          · right; right; right; left; exact ⟨rfl, rfl, decide_eq_false g1, decide_eq_true g2⟩
          · right; right; right; right
            exact ⟨rfl, rfl, decide_eq_false g1, decide_eq_false g2, mix_stays lo hi hl hh n1 n2 g1 g2, mix_none lo n1, clean_eq lo hl n1⟩
      · right; left; exact ⟨rfl, rfl⟩
    · left; rfl
  have G := great
  have LN := libnan
  generalize clamp x lo hi = c at *
  generalize cl x = z at *
  generalize cls (place z) = k at *
  clear hx hl hh hc m2 k1
  go_enter Try.func7, Try.ntmps7
  go_wp2_with fail
  refine (awake_any _).mono ?_
  rintro e w1 ⟨rfl, hb1⟩
  go_wp2_with fail
  refine (C _).mono ?_
  rintro e w' ⟨rfl, rfl⟩
  go_wp2_with fail
  refine (I _).mono ?_
  rintro e w' ⟨rfl, rfl⟩
  go_wp2_with fail
  refine (Nx _).mono ?_
  rintro e w' ⟨rfl, rfl⟩
  go_wp2_with fail
  refine (Nc _).mono ?_
  rintro e w' ⟨rfl, rfl⟩
  go_wp2_with fail
  refine (Nx _).mono ?_
  rintro e w' ⟨rfl, rfl⟩
  go_wp2_with fail
  refine (Sc _).mono ?_
  rintro e w' ⟨rfl, rfl⟩
  go_wp2_with fail
  refine (Nx _).mono ?_
  rintro e w' ⟨rfl, rfl⟩
  go_wp2_with fail
  refine (Kc _).mono ?_
  rintro e w' ⟨rfl, rfl⟩
  go_wp2_with fail
  refine (G _).mono ?_
  rintro e w' ⟨rfl, rfl⟩
  rcases tl with n1 | ⟨n1, n2⟩ | ⟨n1, n2, g1⟩ | ⟨n1, n2, g1, g2⟩ | ⟨n1, n2, g1, g2, e1, e2, e3⟩
  · simp only [n1] at Il
    clear n1
    go_wp2_with fail
    refine (Il _).mono ?_
    rintro e w' ⟨rfl, rfl⟩
    clear C I Lcl Lhc Lxl Lhx S Nx Nc Sc Kc Il Ih Al Ah Nl Nh Sl Sh M1 M2 M3 M4 V In G LN
    go_wp2
    go_ret
    exact ⟨rfl, hb1⟩
  · simp only [n1] at Il
    simp only [n2] at Ih
    clear n1 n2
    go_wp2_with fail
    refine (Il _).mono ?_
    rintro e w' ⟨rfl, rfl⟩
    go_wp2_with fail
    refine (Ih _).mono ?_
    rintro e w' ⟨rfl, rfl⟩
    clear C I Lcl Lhc Lxl Lhx S Nx Nc Sc Kc Il Ih Al Ah Nl Nh Sl Sh M1 M2 M3 M4 V In G LN
    go_wp2
    go_ret
    exact ⟨rfl, hb1⟩
  · simp only [n1] at Il
    simp only [n2] at Ih
    clear n1 n2
    go_wp2_with fail
    refine (Il _).mono ?_
    rintro e w' ⟨rfl, rfl⟩
    go_wp2_with fail
    refine (Ih _).mono ?_
    rintro e w' ⟨rfl, rfl⟩
    go_wp2_with fail
    refine (Al _).mono ?_
    rintro e w' ⟨rfl, rfl⟩
    clear C I Lcl Lhc Lxl Lhx S Nx Nc Sc Kc Il Ih Al Ah Nl Nh Sl Sh M1 M2 M3 M4 V In G LN
    go_wp2
    go_ret
    exact ⟨rfl, hb1⟩
  · simp only [n1] at Il
    simp only [n2] at Ih
    clear n1 n2
    go_wp2_with fail
    refine (Il _).mono ?_
    rintro e w' ⟨rfl, rfl⟩
    go_wp2_with fail
    refine (Ih _).mono ?_
    rintro e w' ⟨rfl, rfl⟩
    go_wp2_with fail
    refine (Al _).mono ?_
    rintro e w' ⟨rfl, rfl⟩
    go_wp2_with fail
    refine (Ah _).mono ?_
    rintro e w' ⟨rfl, rfl⟩
    clear C I Lcl Lhc Lxl Lhx S Nx Nc Sc Kc Il Ih Al Ah Nl Nh Sl Sh M1 M2 M3 M4 V In G LN
    go_wp2
    go_ret
    exact ⟨rfl, hb1⟩
  · simp only [n1] at Il
    simp only [n2] at Ih
    clear n1 n2
    simp only [e1] at M1
    simp only [e2] at M3
    clear e1 e2
    generalize rg lo = rl at *
    generalize rg hi = rh at *
    generalize cl lo = zl at *
    generalize cl hi = zh at *
    go_wp2_with fail
    refine (Il _).mono ?_
    rintro e w' ⟨rfl, rfl⟩
    go_wp2_with fail
    refine (Ih _).mono ?_
    rintro e w' ⟨rfl, rfl⟩
    go_wp2_with fail
    refine (Al _).mono ?_
    rintro e w' ⟨rfl, rfl⟩
    go_wp2_with fail
    refine (Ah _).mono ?_
    rintro e w' ⟨rfl, rfl⟩
    go_wp2_with fail
    refine (M1 _).mono ?_
    rintro e w2 ⟨rfl, hb⟩
    replace hb := hb1.trans (hb.mono hb1.size)
    clear hb1
    have hb1 := hb
    clear hb
    go_wp2_with fail
    refine (LN _).mono ?_
    rintro e w' ⟨rfl, rfl⟩
    go_wp2_with fail
    refine (M2 _).mono ?_
    rintro e w3 ⟨rfl, hb⟩
    replace hb := hb1.trans (hb.mono hb1.size)
    clear hb1
    have hb1 := hb
    clear hb
    go_wp2_with fail
    refine (Nh _).mono ?_
    rintro e w' ⟨rfl, rfl⟩
    go_wp2_with fail
    refine (Sh _).mono ?_
    rintro e w' ⟨rfl, rfl⟩
    go_wp2_with fail
    refine (LN _).mono ?_
    rintro e w' ⟨rfl, rfl⟩
    go_wp2_with fail
    refine (M3 _).mono ?_
    rintro e w4 ⟨rfl, hb⟩
    replace hb := hb1.trans (hb.mono hb1.size)
    clear hb1
    have hb1 := hb
    clear hb
    go_wp2_with fail
    refine (Nl _).mono ?_
    rintro e w' ⟨rfl, rfl⟩
    go_wp2_with fail
    refine (Sl _).mono ?_
    rintro e w' ⟨rfl, rfl⟩
    go_wp2_with fail
    refine (V _).mono ?_
    rintro e w' ⟨rfl, rfl⟩
    go_wp2_with fail
    refine (M4 _).mono ?_
    rintro e w5 ⟨rfl, hb⟩
    replace hb := hb1.trans (hb.mono hb1.size)
    clear hb1
    have hb1 := hb
    clear hb
    go_wp2_with fail
    refine (In _).mono ?_
    rintro e w' ⟨rfl, rfl⟩
    clear C I Lcl Lhc Lxl Lhx S Nx Nc Sc Kc Il Ih Al Ah Nl Nh Sl Sh M1 M2 M3 M4 V In G LN
    go_wp2
    go_ret
    exact ⟨rfl, hb1⟩
set_option maxHeartbeats 8000000 in
theorem goA (x lo hi : Nat) (w : World) (hx : x < 18446744073709551616) (hl : lo < 18446744073709551616) (hh : hi < 18446744073709551616) (k1 : isN (clamp x lo hi) = false) (k2 : lt (clamp x lo hi) lo = false) (k3 : lt hi (clamp x lo hi) = false) (k4 : lt x lo = true) :
    Calls Try.prog 7 #[.float .f64 x, .float .f64 lo, .float .f64 hi] w fun e w' => e = .returned (.bool true) ∧ Below w.heap.size w w' := by
  have hc := clamp_lt x lo hi hx hl hh
  have C := fun w => clamp_any x lo hi w hx hl hh
  have I := fun w => isNaN_any (clamp x lo hi) w hc
  have Lcl := fun w => less_any (clamp x lo hi) lo w hc hl
  have Lhc := fun w => less_any hi (clamp x lo hi) w hh hc
  have Lxl := fun w => less_any x lo w hx hl
  have Lhx := fun w => less_any hi x w hh hx
  have S := fun w => same_any (clamp x lo hi) x w hc hx
  simp only [k1] at I
  simp only [k2] at Lcl
  simp only [k3] at Lhc
  simp only [k4] at Lxl
  obtain ⟨m1, m2⟩ := cl_place x hx
  have Nx := fun w => clean_any x w hx
  have Nc := fun w => clean_any (cl x) w (cl_lt x hx)
  simp only [m2] at Nc
  have Sc := fun w => same_any (cl x) (cl x) w (cl_lt x hx) (cl_lt x hx)
  simp only [show eq (cl x) (cl x) = true from decide_eq_true rfl] at Sc
  have Kc := fun w => class_any (cl x) w (cl_lt x hx)
  have Il := fun w => isNaN_any lo w hl
  have Ih := fun w => isNaN_any hi w hh
  have Al := fun w => abs_any lo w hl
  have Ah := fun w => abs_any hi w hh
  have Nl := fun w => clean_any lo w hl
  have Nh := fun w => clean_any hi w hh
  have Sl := fun w => same_any (cl lo) (cl lo) w (cl_lt lo hl) (cl_lt lo hl)
  simp only [show eq (cl lo) (cl lo) = true from decide_eq_true rfl] at Sl
  have Sh := fun w => same_any (cl hi) (cl hi) w (cl_lt hi hh) (cl_lt hi hh)
  simp only [show eq (cl hi) (cl hi) = true from decide_eq_true rfl] at Sh
  have M1 := fun w => mix_any lo hi 0 w hl hh (by decide)
  have M2 := fun w => mix_any 9221120237041090561 hi 4602678819172646912 w (by decide) hh (by decide)
  simp only [mix_comes hi] at M2
  have M3 := fun w => mix_any lo 9221120237041090561 4602678819172646912 w hl (by decide) (by decide)
  have M4 := fun w => mix_any lo hi 9218868437227405312 w hl hh (by decide)
  simp only [mix_bad lo hi] at M4
  have V := fun w => inf_any 1 w
  simp only [show (if (0 : Int) ≤ 1 then 9218868437227405312 else 18442240474082181120 : Nat) = 9218868437227405312 from rfl] at V
  have In := fun w => isNaN_any 9221120237041090560 w (by decide)
  simp only [show isN 9221120237041090560 = true by decide] at In
  have tl : isN lo = true ∨ (isN lo = false ∧ isN hi = true) ∨
      (isN lo = false ∧ isN hi = false ∧ (FloatKind.f64.format.order (rg lo) 9110782046170513408 == some .gt) = true) ∨
      (isN lo = false ∧ isN hi = false ∧ (FloatKind.f64.format.order (rg lo) 9110782046170513408 == some .gt) = false ∧ (FloatKind.f64.format.order (rg hi) 9110782046170513408 == some .gt) = true) ∨
      (isN lo = false ∧ isN hi = false ∧ (FloatKind.f64.format.order (rg lo) 9110782046170513408 == some .gt) = false ∧ (FloatKind.f64.format.order (rg hi) 9110782046170513408 == some .gt) = false ∧ mixR lo hi 0 = cl lo ∧ mixR lo 9221120237041090561 4602678819172646912 = cl lo ∧ (FloatKind.f64.format.order (cl lo) lo == some .eq) = true) := by
    cases n1 : isN lo
    · cases n2 : isN hi
      · rw [abs_gt lo hl n1, abs_gt hi hh n2]
        by_cases g1 : 9110782046170513408 < rg lo
        · right; right; left; exact ⟨rfl, rfl, decide_eq_true g1⟩
        · by_cases g2 : 9110782046170513408 < rg hi
          · right; right; right; left; exact ⟨rfl, rfl, decide_eq_false g1, decide_eq_true g2⟩
          · right; right; right; right
            exact ⟨rfl, rfl, decide_eq_false g1, decide_eq_false g2, mix_stays lo hi hl hh n1 n2 g1 g2, mix_none lo n1, clean_eq lo hl n1⟩
      · right; left; exact ⟨rfl, rfl⟩
    · left; rfl
  have G := great
  have LN := libnan
  generalize clamp x lo hi = c at *
  generalize cl x = z at *
  generalize cls (place z) = k at *
  clear hx hl hh hc m2 k1 k2 k3 k4
  go_enter Try.func7, Try.ntmps7
  go_wp2_with fail
  refine (awake_any _).mono ?_
  rintro e w1 ⟨rfl, hb1⟩
  go_wp2_with fail
  refine (C _).mono ?_
  rintro e w' ⟨rfl, rfl⟩
  go_wp2_with fail
  refine (I _).mono ?_
  rintro e w' ⟨rfl, rfl⟩
  go_wp2_with fail
  refine (Lcl _).mono ?_
  rintro e w' ⟨rfl, rfl⟩
  go_wp2_with fail
  refine (Lhc _).mono ?_
  rintro e w' ⟨rfl, rfl⟩
  go_wp2_with fail
  refine (Lxl _).mono ?_
  rintro e w' ⟨rfl, rfl⟩
  go_wp2_with fail
  refine (Nx _).mono ?_
  rintro e w' ⟨rfl, rfl⟩
  go_wp2_with fail
  refine (Nc _).mono ?_
  rintro e w' ⟨rfl, rfl⟩
  go_wp2_with fail
  refine (Nx _).mono ?_
  rintro e w' ⟨rfl, rfl⟩
  go_wp2_with fail
  refine (Sc _).mono ?_
  rintro e w' ⟨rfl, rfl⟩
  go_wp2_with fail
  refine (Nx _).mono ?_
  rintro e w' ⟨rfl, rfl⟩
  go_wp2_with fail
  refine (Kc _).mono ?_
  rintro e w' ⟨rfl, rfl⟩
  go_wp2_with fail
  refine (G _).mono ?_
  rintro e w' ⟨rfl, rfl⟩
  rcases tl with n1 | ⟨n1, n2⟩ | ⟨n1, n2, g1⟩ | ⟨n1, n2, g1, g2⟩ | ⟨n1, n2, g1, g2, e1, e2, e3⟩
  · simp only [n1] at Il
    clear n1
    go_wp2_with fail
    refine (Il _).mono ?_
    rintro e w' ⟨rfl, rfl⟩
    clear C I Lcl Lhc Lxl Lhx S Nx Nc Sc Kc Il Ih Al Ah Nl Nh Sl Sh M1 M2 M3 M4 V In G LN
    go_wp2
    go_ret
    exact ⟨rfl, hb1⟩
  · simp only [n1] at Il
    simp only [n2] at Ih
    clear n1 n2
    go_wp2_with fail
    refine (Il _).mono ?_
    rintro e w' ⟨rfl, rfl⟩
    go_wp2_with fail
    refine (Ih _).mono ?_
    rintro e w' ⟨rfl, rfl⟩
    clear C I Lcl Lhc Lxl Lhx S Nx Nc Sc Kc Il Ih Al Ah Nl Nh Sl Sh M1 M2 M3 M4 V In G LN
    go_wp2
    go_ret
    exact ⟨rfl, hb1⟩
  · simp only [n1] at Il
    simp only [n2] at Ih
    clear n1 n2
    go_wp2_with fail
    refine (Il _).mono ?_
    rintro e w' ⟨rfl, rfl⟩
    go_wp2_with fail
    refine (Ih _).mono ?_
    rintro e w' ⟨rfl, rfl⟩
    go_wp2_with fail
    refine (Al _).mono ?_
    rintro e w' ⟨rfl, rfl⟩
    clear C I Lcl Lhc Lxl Lhx S Nx Nc Sc Kc Il Ih Al Ah Nl Nh Sl Sh M1 M2 M3 M4 V In G LN
    go_wp2
    go_ret
    exact ⟨rfl, hb1⟩
  · simp only [n1] at Il
    simp only [n2] at Ih
    clear n1 n2
    go_wp2_with fail
    refine (Il _).mono ?_
    rintro e w' ⟨rfl, rfl⟩
    go_wp2_with fail
    refine (Ih _).mono ?_
    rintro e w' ⟨rfl, rfl⟩
    go_wp2_with fail
    refine (Al _).mono ?_
    rintro e w' ⟨rfl, rfl⟩
    go_wp2_with fail
    refine (Ah _).mono ?_
    rintro e w' ⟨rfl, rfl⟩
    clear C I Lcl Lhc Lxl Lhx S Nx Nc Sc Kc Il Ih Al Ah Nl Nh Sl Sh M1 M2 M3 M4 V In G LN
    go_wp2
    go_ret
    exact ⟨rfl, hb1⟩
  · simp only [n1] at Il
    simp only [n2] at Ih
    clear n1 n2
    simp only [e1] at M1
    simp only [e2] at M3
    clear e1 e2
    generalize rg lo = rl at *
    generalize rg hi = rh at *
    generalize cl lo = zl at *
    generalize cl hi = zh at *
    go_wp2_with fail
    refine (Il _).mono ?_
    rintro e w' ⟨rfl, rfl⟩
    go_wp2_with fail
    refine (Ih _).mono ?_
    rintro e w' ⟨rfl, rfl⟩
    go_wp2_with fail
    refine (Al _).mono ?_
    rintro e w' ⟨rfl, rfl⟩
    go_wp2_with fail
    refine (Ah _).mono ?_
    rintro e w' ⟨rfl, rfl⟩
    go_wp2_with fail
    refine (M1 _).mono ?_
    rintro e w2 ⟨rfl, hb⟩
    replace hb := hb1.trans (hb.mono hb1.size)
    clear hb1
    have hb1 := hb
    clear hb
    go_wp2_with fail
    refine (LN _).mono ?_
    rintro e w' ⟨rfl, rfl⟩
    go_wp2_with fail
    refine (M2 _).mono ?_
    rintro e w3 ⟨rfl, hb⟩
    replace hb := hb1.trans (hb.mono hb1.size)
    clear hb1
    have hb1 := hb
    clear hb
    go_wp2_with fail
    refine (Nh _).mono ?_
    rintro e w' ⟨rfl, rfl⟩
    go_wp2_with fail
    refine (Sh _).mono ?_
    rintro e w' ⟨rfl, rfl⟩
    go_wp2_with fail
    refine (LN _).mono ?_
    rintro e w' ⟨rfl, rfl⟩
    go_wp2_with fail
    refine (M3 _).mono ?_
    rintro e w4 ⟨rfl, hb⟩
    replace hb := hb1.trans (hb.mono hb1.size)
    clear hb1
    have hb1 := hb
    clear hb
    go_wp2_with fail
    refine (Nl _).mono ?_
    rintro e w' ⟨rfl, rfl⟩
    go_wp2_with fail
    refine (Sl _).mono ?_
    rintro e w' ⟨rfl, rfl⟩
    go_wp2_with fail
    refine (V _).mono ?_
    rintro e w' ⟨rfl, rfl⟩
    go_wp2_with fail
    refine (M4 _).mono ?_
    rintro e w5 ⟨rfl, hb⟩
    replace hb := hb1.trans (hb.mono hb1.size)
    clear hb1
    have hb1 := hb
    clear hb
    go_wp2_with fail
    refine (In _).mono ?_
    rintro e w' ⟨rfl, rfl⟩
    clear C I Lcl Lhc Lxl Lhx S Nx Nc Sc Kc Il Ih Al Ah Nl Nh Sl Sh M1 M2 M3 M4 V In G LN
    go_wp2
    go_ret
    exact ⟨rfl, hb1⟩
set_option maxHeartbeats 8000000 in
theorem goB (x lo hi : Nat) (w : World) (hx : x < 18446744073709551616) (hl : lo < 18446744073709551616) (hh : hi < 18446744073709551616) (k1 : isN (clamp x lo hi) = false) (k2 : lt (clamp x lo hi) lo = false) (k3 : lt hi (clamp x lo hi) = false) (k4 : lt x lo = false) (k5 : lt hi x = true) :
    Calls Try.prog 7 #[.float .f64 x, .float .f64 lo, .float .f64 hi] w fun e w' => e = .returned (.bool true) ∧ Below w.heap.size w w' := by
  have hc := clamp_lt x lo hi hx hl hh
  have C := fun w => clamp_any x lo hi w hx hl hh
  have I := fun w => isNaN_any (clamp x lo hi) w hc
  have Lcl := fun w => less_any (clamp x lo hi) lo w hc hl
  have Lhc := fun w => less_any hi (clamp x lo hi) w hh hc
  have Lxl := fun w => less_any x lo w hx hl
  have Lhx := fun w => less_any hi x w hh hx
  have S := fun w => same_any (clamp x lo hi) x w hc hx
  simp only [k1] at I
  simp only [k2] at Lcl
  simp only [k3] at Lhc
  simp only [k4] at Lxl
  simp only [k5] at Lhx
  obtain ⟨m1, m2⟩ := cl_place x hx
  have Nx := fun w => clean_any x w hx
  have Nc := fun w => clean_any (cl x) w (cl_lt x hx)
  simp only [m2] at Nc
  have Sc := fun w => same_any (cl x) (cl x) w (cl_lt x hx) (cl_lt x hx)
  simp only [show eq (cl x) (cl x) = true from decide_eq_true rfl] at Sc
  have Kc := fun w => class_any (cl x) w (cl_lt x hx)
  have Il := fun w => isNaN_any lo w hl
  have Ih := fun w => isNaN_any hi w hh
  have Al := fun w => abs_any lo w hl
  have Ah := fun w => abs_any hi w hh
  have Nl := fun w => clean_any lo w hl
  have Nh := fun w => clean_any hi w hh
  have Sl := fun w => same_any (cl lo) (cl lo) w (cl_lt lo hl) (cl_lt lo hl)
  simp only [show eq (cl lo) (cl lo) = true from decide_eq_true rfl] at Sl
  have Sh := fun w => same_any (cl hi) (cl hi) w (cl_lt hi hh) (cl_lt hi hh)
  simp only [show eq (cl hi) (cl hi) = true from decide_eq_true rfl] at Sh
  have M1 := fun w => mix_any lo hi 0 w hl hh (by decide)
  have M2 := fun w => mix_any 9221120237041090561 hi 4602678819172646912 w (by decide) hh (by decide)
  simp only [mix_comes hi] at M2
  have M3 := fun w => mix_any lo 9221120237041090561 4602678819172646912 w hl (by decide) (by decide)
  have M4 := fun w => mix_any lo hi 9218868437227405312 w hl hh (by decide)
  simp only [mix_bad lo hi] at M4
  have V := fun w => inf_any 1 w
  simp only [show (if (0 : Int) ≤ 1 then 9218868437227405312 else 18442240474082181120 : Nat) = 9218868437227405312 from rfl] at V
  have In := fun w => isNaN_any 9221120237041090560 w (by decide)
  simp only [show isN 9221120237041090560 = true by decide] at In
  have tl : isN lo = true ∨ (isN lo = false ∧ isN hi = true) ∨
      (isN lo = false ∧ isN hi = false ∧ (FloatKind.f64.format.order (rg lo) 9110782046170513408 == some .gt) = true) ∨
      (isN lo = false ∧ isN hi = false ∧ (FloatKind.f64.format.order (rg lo) 9110782046170513408 == some .gt) = false ∧ (FloatKind.f64.format.order (rg hi) 9110782046170513408 == some .gt) = true) ∨
      (isN lo = false ∧ isN hi = false ∧ (FloatKind.f64.format.order (rg lo) 9110782046170513408 == some .gt) = false ∧ (FloatKind.f64.format.order (rg hi) 9110782046170513408 == some .gt) = false ∧ mixR lo hi 0 = cl lo ∧ mixR lo 9221120237041090561 4602678819172646912 = cl lo ∧ (FloatKind.f64.format.order (cl lo) lo == some .eq) = true) := by
    cases n1 : isN lo
    · cases n2 : isN hi
      · rw [abs_gt lo hl n1, abs_gt hi hh n2]
        by_cases g1 : 9110782046170513408 < rg lo
        · right; right; left; exact ⟨rfl, rfl, decide_eq_true g1⟩
        · by_cases g2 : 9110782046170513408 < rg hi
          · right; right; right; left; exact ⟨rfl, rfl, decide_eq_false g1, decide_eq_true g2⟩
          · right; right; right; right
            exact ⟨rfl, rfl, decide_eq_false g1, decide_eq_false g2, mix_stays lo hi hl hh n1 n2 g1 g2, mix_none lo n1, clean_eq lo hl n1⟩
      · right; left; exact ⟨rfl, rfl⟩
    · left; rfl
  have G := great
  have LN := libnan
  generalize clamp x lo hi = c at *
  generalize cl x = z at *
  generalize cls (place z) = k at *
  clear hx hl hh hc m2 k1 k2 k3 k4 k5
  go_enter Try.func7, Try.ntmps7
  go_wp2_with fail
  refine (awake_any _).mono ?_
  rintro e w1 ⟨rfl, hb1⟩
  go_wp2_with fail
  refine (C _).mono ?_
  rintro e w' ⟨rfl, rfl⟩
  go_wp2_with fail
  refine (I _).mono ?_
  rintro e w' ⟨rfl, rfl⟩
  go_wp2_with fail
  refine (Lcl _).mono ?_
  rintro e w' ⟨rfl, rfl⟩
  go_wp2_with fail
  refine (Lhc _).mono ?_
  rintro e w' ⟨rfl, rfl⟩
  go_wp2_with fail
  refine (Lxl _).mono ?_
  rintro e w' ⟨rfl, rfl⟩
  go_wp2_with fail
  refine (Lhx _).mono ?_
  rintro e w' ⟨rfl, rfl⟩
  go_wp2_with fail
  refine (Nx _).mono ?_
  rintro e w' ⟨rfl, rfl⟩
  go_wp2_with fail
  refine (Nc _).mono ?_
  rintro e w' ⟨rfl, rfl⟩
  go_wp2_with fail
  refine (Nx _).mono ?_
  rintro e w' ⟨rfl, rfl⟩
  go_wp2_with fail
  refine (Sc _).mono ?_
  rintro e w' ⟨rfl, rfl⟩
  go_wp2_with fail
  refine (Nx _).mono ?_
  rintro e w' ⟨rfl, rfl⟩
  go_wp2_with fail
  refine (Kc _).mono ?_
  rintro e w' ⟨rfl, rfl⟩
  go_wp2_with fail
  refine (G _).mono ?_
  rintro e w' ⟨rfl, rfl⟩
  rcases tl with n1 | ⟨n1, n2⟩ | ⟨n1, n2, g1⟩ | ⟨n1, n2, g1, g2⟩ | ⟨n1, n2, g1, g2, e1, e2, e3⟩
  · simp only [n1] at Il
    clear n1
    go_wp2_with fail
    refine (Il _).mono ?_
    rintro e w' ⟨rfl, rfl⟩
    clear C I Lcl Lhc Lxl Lhx S Nx Nc Sc Kc Il Ih Al Ah Nl Nh Sl Sh M1 M2 M3 M4 V In G LN
    go_wp2
    go_ret
    exact ⟨rfl, hb1⟩
  · simp only [n1] at Il
    simp only [n2] at Ih
    clear n1 n2
    go_wp2_with fail
    refine (Il _).mono ?_
    rintro e w' ⟨rfl, rfl⟩
    go_wp2_with fail
    refine (Ih _).mono ?_
    rintro e w' ⟨rfl, rfl⟩
    clear C I Lcl Lhc Lxl Lhx S Nx Nc Sc Kc Il Ih Al Ah Nl Nh Sl Sh M1 M2 M3 M4 V In G LN
    go_wp2
    go_ret
    exact ⟨rfl, hb1⟩
  · simp only [n1] at Il
    simp only [n2] at Ih
    clear n1 n2
    go_wp2_with fail
    refine (Il _).mono ?_
    rintro e w' ⟨rfl, rfl⟩
    go_wp2_with fail
    refine (Ih _).mono ?_
    rintro e w' ⟨rfl, rfl⟩
    go_wp2_with fail
    refine (Al _).mono ?_
    rintro e w' ⟨rfl, rfl⟩
    clear C I Lcl Lhc Lxl Lhx S Nx Nc Sc Kc Il Ih Al Ah Nl Nh Sl Sh M1 M2 M3 M4 V In G LN
    go_wp2
    go_ret
    exact ⟨rfl, hb1⟩
  · simp only [n1] at Il
    simp only [n2] at Ih
    clear n1 n2
    go_wp2_with fail
    refine (Il _).mono ?_
    rintro e w' ⟨rfl, rfl⟩
    go_wp2_with fail
    refine (Ih _).mono ?_
    rintro e w' ⟨rfl, rfl⟩
    go_wp2_with fail
    refine (Al _).mono ?_
    rintro e w' ⟨rfl, rfl⟩
    go_wp2_with fail
    refine (Ah _).mono ?_
    rintro e w' ⟨rfl, rfl⟩
    clear C I Lcl Lhc Lxl Lhx S Nx Nc Sc Kc Il Ih Al Ah Nl Nh Sl Sh M1 M2 M3 M4 V In G LN
    go_wp2
    go_ret
    exact ⟨rfl, hb1⟩
  · simp only [n1] at Il
    simp only [n2] at Ih
    clear n1 n2
    simp only [e1] at M1
    simp only [e2] at M3
    clear e1 e2
    generalize rg lo = rl at *
    generalize rg hi = rh at *
    generalize cl lo = zl at *
    generalize cl hi = zh at *
    go_wp2_with fail
    refine (Il _).mono ?_
    rintro e w' ⟨rfl, rfl⟩
    go_wp2_with fail
    refine (Ih _).mono ?_
    rintro e w' ⟨rfl, rfl⟩
    go_wp2_with fail
    refine (Al _).mono ?_
    rintro e w' ⟨rfl, rfl⟩
    go_wp2_with fail
    refine (Ah _).mono ?_
    rintro e w' ⟨rfl, rfl⟩
    go_wp2_with fail
    refine (M1 _).mono ?_
    rintro e w2 ⟨rfl, hb⟩
    replace hb := hb1.trans (hb.mono hb1.size)
    clear hb1
    have hb1 := hb
    clear hb
    go_wp2_with fail
    refine (LN _).mono ?_
    rintro e w' ⟨rfl, rfl⟩
    go_wp2_with fail
    refine (M2 _).mono ?_
    rintro e w3 ⟨rfl, hb⟩
    replace hb := hb1.trans (hb.mono hb1.size)
    clear hb1
    have hb1 := hb
    clear hb
    go_wp2_with fail
    refine (Nh _).mono ?_
    rintro e w' ⟨rfl, rfl⟩
    go_wp2_with fail
    refine (Sh _).mono ?_
    rintro e w' ⟨rfl, rfl⟩
    go_wp2_with fail
    refine (LN _).mono ?_
    rintro e w' ⟨rfl, rfl⟩
    go_wp2_with fail
    refine (M3 _).mono ?_
    rintro e w4 ⟨rfl, hb⟩
    replace hb := hb1.trans (hb.mono hb1.size)
    clear hb1
    have hb1 := hb
    clear hb
    go_wp2_with fail
    refine (Nl _).mono ?_
    rintro e w' ⟨rfl, rfl⟩
    go_wp2_with fail
    refine (Sl _).mono ?_
    rintro e w' ⟨rfl, rfl⟩
    go_wp2_with fail
    refine (V _).mono ?_
    rintro e w' ⟨rfl, rfl⟩
    go_wp2_with fail
    refine (M4 _).mono ?_
    rintro e w5 ⟨rfl, hb⟩
    replace hb := hb1.trans (hb.mono hb1.size)
    clear hb1
    have hb1 := hb
    clear hb
    go_wp2_with fail
    refine (In _).mono ?_
    rintro e w' ⟨rfl, rfl⟩
    clear C I Lcl Lhc Lxl Lhx S Nx Nc Sc Kc Il Ih Al Ah Nl Nh Sl Sh M1 M2 M3 M4 V In G LN
    go_wp2
    go_ret
    exact ⟨rfl, hb1⟩
set_option maxHeartbeats 8000000 in
theorem goD (x lo hi : Nat) (w : World) (hx : x < 18446744073709551616) (hl : lo < 18446744073709551616) (hh : hi < 18446744073709551616) (k1 : isN (clamp x lo hi) = false) (k2 : lt (clamp x lo hi) lo = false) (k3 : lt hi (clamp x lo hi) = false) (k4 : lt x lo = false) (k5 : lt hi x = false) (k6 : eq (clamp x lo hi) x = true) :
    Calls Try.prog 7 #[.float .f64 x, .float .f64 lo, .float .f64 hi] w fun e w' => e = .returned (.bool true) ∧ Below w.heap.size w w' := by
  have hc := clamp_lt x lo hi hx hl hh
  have C := fun w => clamp_any x lo hi w hx hl hh
  have I := fun w => isNaN_any (clamp x lo hi) w hc
  have Lcl := fun w => less_any (clamp x lo hi) lo w hc hl
  have Lhc := fun w => less_any hi (clamp x lo hi) w hh hc
  have Lxl := fun w => less_any x lo w hx hl
  have Lhx := fun w => less_any hi x w hh hx
  have S := fun w => same_any (clamp x lo hi) x w hc hx
  simp only [k1] at I
  simp only [k2] at Lcl
  simp only [k3] at Lhc
  simp only [k4] at Lxl
  simp only [k5] at Lhx
  simp only [k6] at S
  obtain ⟨m1, m2⟩ := cl_place x hx
  have Nx := fun w => clean_any x w hx
  have Nc := fun w => clean_any (cl x) w (cl_lt x hx)
  simp only [m2] at Nc
  have Sc := fun w => same_any (cl x) (cl x) w (cl_lt x hx) (cl_lt x hx)
  simp only [show eq (cl x) (cl x) = true from decide_eq_true rfl] at Sc
  have Kc := fun w => class_any (cl x) w (cl_lt x hx)
  have Il := fun w => isNaN_any lo w hl
  have Ih := fun w => isNaN_any hi w hh
  have Al := fun w => abs_any lo w hl
  have Ah := fun w => abs_any hi w hh
  have Nl := fun w => clean_any lo w hl
  have Nh := fun w => clean_any hi w hh
  have Sl := fun w => same_any (cl lo) (cl lo) w (cl_lt lo hl) (cl_lt lo hl)
  simp only [show eq (cl lo) (cl lo) = true from decide_eq_true rfl] at Sl
  have Sh := fun w => same_any (cl hi) (cl hi) w (cl_lt hi hh) (cl_lt hi hh)
  simp only [show eq (cl hi) (cl hi) = true from decide_eq_true rfl] at Sh
  have M1 := fun w => mix_any lo hi 0 w hl hh (by decide)
  have M2 := fun w => mix_any 9221120237041090561 hi 4602678819172646912 w (by decide) hh (by decide)
  simp only [mix_comes hi] at M2
  have M3 := fun w => mix_any lo 9221120237041090561 4602678819172646912 w hl (by decide) (by decide)
  have M4 := fun w => mix_any lo hi 9218868437227405312 w hl hh (by decide)
  simp only [mix_bad lo hi] at M4
  have V := fun w => inf_any 1 w
  simp only [show (if (0 : Int) ≤ 1 then 9218868437227405312 else 18442240474082181120 : Nat) = 9218868437227405312 from rfl] at V
  have In := fun w => isNaN_any 9221120237041090560 w (by decide)
  simp only [show isN 9221120237041090560 = true by decide] at In
  have tl : isN lo = true ∨ (isN lo = false ∧ isN hi = true) ∨
      (isN lo = false ∧ isN hi = false ∧ (FloatKind.f64.format.order (rg lo) 9110782046170513408 == some .gt) = true) ∨
      (isN lo = false ∧ isN hi = false ∧ (FloatKind.f64.format.order (rg lo) 9110782046170513408 == some .gt) = false ∧ (FloatKind.f64.format.order (rg hi) 9110782046170513408 == some .gt) = true) ∨
      (isN lo = false ∧ isN hi = false ∧ (FloatKind.f64.format.order (rg lo) 9110782046170513408 == some .gt) = false ∧ (FloatKind.f64.format.order (rg hi) 9110782046170513408 == some .gt) = false ∧ mixR lo hi 0 = cl lo ∧ mixR lo 9221120237041090561 4602678819172646912 = cl lo ∧ (FloatKind.f64.format.order (cl lo) lo == some .eq) = true) := by
    cases n1 : isN lo
    · cases n2 : isN hi
      · rw [abs_gt lo hl n1, abs_gt hi hh n2]
        by_cases g1 : 9110782046170513408 < rg lo
        · right; right; left; exact ⟨rfl, rfl, decide_eq_true g1⟩
        · by_cases g2 : 9110782046170513408 < rg hi
          · right; right; right; left; exact ⟨rfl, rfl, decide_eq_false g1, decide_eq_true g2⟩
          · right; right; right; right
            exact ⟨rfl, rfl, decide_eq_false g1, decide_eq_false g2, mix_stays lo hi hl hh n1 n2 g1 g2, mix_none lo n1, clean_eq lo hl n1⟩
      · right; left; exact ⟨rfl, rfl⟩
    · left; rfl
  have G := great
  have LN := libnan
  generalize clamp x lo hi = c at *
  generalize cl x = z at *
  generalize cls (place z) = k at *
  clear hx hl hh hc m2 k1 k2 k3 k4 k5 k6
  go_enter Try.func7, Try.ntmps7
  go_wp2_with fail
  refine (awake_any _).mono ?_
  rintro e w1 ⟨rfl, hb1⟩
  go_wp2_with fail
  refine (C _).mono ?_
  rintro e w' ⟨rfl, rfl⟩
  go_wp2_with fail
  refine (I _).mono ?_
  rintro e w' ⟨rfl, rfl⟩
  go_wp2_with fail
  refine (Lcl _).mono ?_
  rintro e w' ⟨rfl, rfl⟩
  go_wp2_with fail
  refine (Lhc _).mono ?_
  rintro e w' ⟨rfl, rfl⟩
  go_wp2_with fail
  refine (Lxl _).mono ?_
  rintro e w' ⟨rfl, rfl⟩
  go_wp2_with fail
  refine (Lhx _).mono ?_
  rintro e w' ⟨rfl, rfl⟩
  go_wp2_with fail
  refine (S _).mono ?_
  rintro e w' ⟨rfl, rfl⟩
  go_wp2_with fail
  refine (Nx _).mono ?_
  rintro e w' ⟨rfl, rfl⟩
  go_wp2_with fail
  refine (Nc _).mono ?_
  rintro e w' ⟨rfl, rfl⟩
  go_wp2_with fail
  refine (Nx _).mono ?_
  rintro e w' ⟨rfl, rfl⟩
  go_wp2_with fail
  refine (Sc _).mono ?_
  rintro e w' ⟨rfl, rfl⟩
  go_wp2_with fail
  refine (Nx _).mono ?_
  rintro e w' ⟨rfl, rfl⟩
  go_wp2_with fail
  refine (Kc _).mono ?_
  rintro e w' ⟨rfl, rfl⟩
  go_wp2_with fail
  refine (G _).mono ?_
  rintro e w' ⟨rfl, rfl⟩
  rcases tl with n1 | ⟨n1, n2⟩ | ⟨n1, n2, g1⟩ | ⟨n1, n2, g1, g2⟩ | ⟨n1, n2, g1, g2, e1, e2, e3⟩
  · simp only [n1] at Il
    clear n1
    go_wp2_with fail
    refine (Il _).mono ?_
    rintro e w' ⟨rfl, rfl⟩
    clear C I Lcl Lhc Lxl Lhx S Nx Nc Sc Kc Il Ih Al Ah Nl Nh Sl Sh M1 M2 M3 M4 V In G LN
    go_wp2
    go_ret
    exact ⟨rfl, hb1⟩
  · simp only [n1] at Il
    simp only [n2] at Ih
    clear n1 n2
    go_wp2_with fail
    refine (Il _).mono ?_
    rintro e w' ⟨rfl, rfl⟩
    go_wp2_with fail
    refine (Ih _).mono ?_
    rintro e w' ⟨rfl, rfl⟩
    clear C I Lcl Lhc Lxl Lhx S Nx Nc Sc Kc Il Ih Al Ah Nl Nh Sl Sh M1 M2 M3 M4 V In G LN
    go_wp2
    go_ret
    exact ⟨rfl, hb1⟩
  · simp only [n1] at Il
    simp only [n2] at Ih
    clear n1 n2
    go_wp2_with fail
    refine (Il _).mono ?_
    rintro e w' ⟨rfl, rfl⟩
    go_wp2_with fail
    refine (Ih _).mono ?_
    rintro e w' ⟨rfl, rfl⟩
    go_wp2_with fail
    refine (Al _).mono ?_
    rintro e w' ⟨rfl, rfl⟩
    clear C I Lcl Lhc Lxl Lhx S Nx Nc Sc Kc Il Ih Al Ah Nl Nh Sl Sh M1 M2 M3 M4 V In G LN
    go_wp2
    go_ret
    exact ⟨rfl, hb1⟩
  · simp only [n1] at Il
    simp only [n2] at Ih
    clear n1 n2
    go_wp2_with fail
    refine (Il _).mono ?_
    rintro e w' ⟨rfl, rfl⟩
    go_wp2_with fail
    refine (Ih _).mono ?_
    rintro e w' ⟨rfl, rfl⟩
    go_wp2_with fail
    refine (Al _).mono ?_
    rintro e w' ⟨rfl, rfl⟩
    go_wp2_with fail
    refine (Ah _).mono ?_
    rintro e w' ⟨rfl, rfl⟩
    clear C I Lcl Lhc Lxl Lhx S Nx Nc Sc Kc Il Ih Al Ah Nl Nh Sl Sh M1 M2 M3 M4 V In G LN
    go_wp2
    go_ret
    exact ⟨rfl, hb1⟩
  · simp only [n1] at Il
    simp only [n2] at Ih
    clear n1 n2
    simp only [e1] at M1
    simp only [e2] at M3
    clear e1 e2
    generalize rg lo = rl at *
    generalize rg hi = rh at *
    generalize cl lo = zl at *
    generalize cl hi = zh at *
    go_wp2_with fail
    refine (Il _).mono ?_
    rintro e w' ⟨rfl, rfl⟩
    go_wp2_with fail
    refine (Ih _).mono ?_
    rintro e w' ⟨rfl, rfl⟩
    go_wp2_with fail
    refine (Al _).mono ?_
    rintro e w' ⟨rfl, rfl⟩
    go_wp2_with fail
    refine (Ah _).mono ?_
    rintro e w' ⟨rfl, rfl⟩
    go_wp2_with fail
    refine (M1 _).mono ?_
    rintro e w2 ⟨rfl, hb⟩
    replace hb := hb1.trans (hb.mono hb1.size)
    clear hb1
    have hb1 := hb
    clear hb
    go_wp2_with fail
    refine (LN _).mono ?_
    rintro e w' ⟨rfl, rfl⟩
    go_wp2_with fail
    refine (M2 _).mono ?_
    rintro e w3 ⟨rfl, hb⟩
    replace hb := hb1.trans (hb.mono hb1.size)
    clear hb1
    have hb1 := hb
    clear hb
    go_wp2_with fail
    refine (Nh _).mono ?_
    rintro e w' ⟨rfl, rfl⟩
    go_wp2_with fail
    refine (Sh _).mono ?_
    rintro e w' ⟨rfl, rfl⟩
    go_wp2_with fail
    refine (LN _).mono ?_
    rintro e w' ⟨rfl, rfl⟩
    go_wp2_with fail
    refine (M3 _).mono ?_
    rintro e w4 ⟨rfl, hb⟩
    replace hb := hb1.trans (hb.mono hb1.size)
    clear hb1
    have hb1 := hb
    clear hb
    go_wp2_with fail
    refine (Nl _).mono ?_
    rintro e w' ⟨rfl, rfl⟩
    go_wp2_with fail
    refine (Sl _).mono ?_
    rintro e w' ⟨rfl, rfl⟩
    go_wp2_with fail
    refine (V _).mono ?_
    rintro e w' ⟨rfl, rfl⟩
    go_wp2_with fail
    refine (M4 _).mono ?_
    rintro e w5 ⟨rfl, hb⟩
    replace hb := hb1.trans (hb.mono hb1.size)
    clear hb1
    have hb1 := hb
    clear hb
    go_wp2_with fail
    refine (In _).mono ?_
    rintro e w' ⟨rfl, rfl⟩
    clear C I Lcl Lhc Lxl Lhx S Nx Nc Sc Kc Il Ih Al Ah Nl Nh Sl Sh M1 M2 M3 M4 V In G LN
    go_wp2
    go_ret
    exact ⟨rfl, hb1⟩
theorem walk (x lo hi : Nat) (wx : (Lit.float .f64 x).wf = true) (wl : (Lit.float .f64 lo).wf = true) (wh : (Lit.float .f64 hi).wf = true) (w : World) :
    Calls Try.prog 7 #[.float .f64 x, .float .f64 lo, .float .f64 hi] w fun e w' => e = .returned (.bool true) ∧ Below w.heap.size w w' := by
  have hx := lt_of wx
  have hl := lt_of wl
  have hh := lt_of wh
  rcases clamp_cases x lo hi with k1 | ⟨k1, k2, k3, k4⟩ | ⟨k1, k2, k3, k4, k5⟩ | ⟨k1, k2, k3, k4, k5, k6⟩
  · exact goN x lo hi w hx hl hh k1
  · exact goA x lo hi w hx hl hh k1 k2 k3 k4
  · exact goB x lo hi w hx hl hh k1 k2 k3 k4 k5
  · exact goD x lo hi w hx hl hh k1 k2 k3 k4 k5 k6

theorem own : ownKnob Try.prog.godebug = none := by kernel_rfl

set_option maxRecDepth 100000 in
theorem lifted (os : Os) (started : os.Started) (H : Type) (enc : TypeId × Value → H) :
    ReturnsInHanded {} Try.checked os 7 .any (Rows.realBetweenSpec.pre6 enc Try.prog Try.f7 Rows.realBetweenRow.domain false) (Rows.realBetweenSpec.post enc Try.prog Try.f7 false true false false) := by
  refine returnsInHanded_of_change (C := Try.checked) own started (by kernel_rfl) Try.func7
    (ChangeSpec.witness6 (enc := enc) (C := Try.checked) false ⟨#[], #[.float .f64 0, .float .f64 0, .float .f64 0], []⟩ 8 (by kernel_rfl) (by kernel_rfl) (by kernel_rfl) (by kernel_rfl)) ?_
  intro W base args ds gs before hval0 hW hcnd _
  have hval : ∀ (j : Nat) t v, Try.f7.params[j]? = some t → args[j]? = some v → Value.okWide Try.prog W .any base t v := hval0
  have hW' := hW
  obtain ⟨p, q, hA0, hV, rfl, hfz, hnd⟩ := hW
  have hA : DataW.TrodAll enc Try.prog W 0 (fun _ => true) true Try.f7.params.toList args.toList ds p := hA0
  rw [Try.params7] at hA hval
  obtain ⟨v0, vs0, d0, ds0, p0, q0, hargs, rfl, rfl, h0, r0⟩ := trodAll_cons hA
  obtain ⟨v1, vs1, d1, ds1, p1, q1, rfl, rfl, rfl, h1, r1⟩ := trodAll_cons r0
  obtain ⟨v2, vs2, d2, ds2, p2, q2, rfl, rfl, rfl, h2, r2⟩ := trodAll_cons r1
  obtain ⟨rfl, rfl, rfl⟩ := trodAll_nil r2
  obtain rfl : args = #[v0, v1, v2] := by cases args; simp_all
  obtain ⟨rfl, rfl⟩ := trodVars_none hV
  obtain ⟨a0, rfl, rfl, rfl, w0⟩ := open_float Try.underlying22 (hval 0 22 v0 rfl rfl) h0
  obtain ⟨a1, rfl, rfl, rfl, w1⟩ := open_float Try.underlying22 (hval 1 22 v1 rfl rfl) h1
  obtain ⟨a2, rfl, rfl, rfl, w2⟩ := open_float Try.underlying22 (hval 2 22 v2 rfl rfl) h2
  clear hA0 hval0
  simp only [List.append_nil] at hW'
  refine (walk a0 a1 a2 w0 w1 w2 W).mono fun e W' ⟨he, bel⟩ => ?_
  subst he
  exact ⟨_, rfl, _, _, _, [], _, [], hW', trodAll_mk1 (shut_bool Try.underlying4 _), (trodAll_cons_mk (shut_float Try.underlying22 w0) (trodAll_cons_mk (shut_float Try.underlying22 w1) (trodAll_cons_mk (shut_float Try.underlying22 w2) trodAll_mk0))), rfl, bel.frame _, fun h => by cases h⟩

theorem over : Rows.realBetweenRow.holds Try.pinned (OpenSpec.ofChange Rows.realBetweenSpec) :=
  OpenClaim.holds_of_wide 7 Try.f7 rfl rfl rfl rfl rfl rfl rfl ⟨rfl, rfl, rfl, rfl, rfl⟩ rfl rfl rfl rfl rfl (by kernel_rfl) Try.func7 (by kernel_rfl)
    (of_decide_eq_true (by kernel_rfl)) (by unfold Func.isWrapper; first | (rw [if_pos (by decide +kernel)]; kernel_rfl) | (rw [if_neg (by decide +kernel)]; exact ⟨rfl, rfl⟩))
    (fun os started H enc _ => lifted os started H enc)

theorem proved : Rows.RealBetweenSaid :=
  over
#print axioms proved
end Go.Proofs.Ytmfhokbognlhbaa.realBetween
