/-
  TermOlder is true for every two ages and spans, all bits: the older, the less is within; what is left is from 0 to 1, and no more when it is older. No conditions.
-/
import Derived.Test.YthocpkmlfkbiaaaTmAwake
import Derived.PlainAid
import Derived.Carry
import Derived.ProofKit
import Derived.OpenShut
import Derived.ShutString
namespace Go.Proofs.Ythocpkmlfkbiaaa.termOlder
open Go.ChangeShapes Go.WideShapes Go.ChangeAt Go.RowKit Go.PlainAid Go.Proofs.Ythocpkmlfkbiaaa.Rl Go.Proofs.Ythocpkmlfkbiaaa.Tm
open Go.ChangeMaps (open_string shut_string)
set_option linter.unusedVariables false

theorem rem_u64 (n : Int) (m : Int) (hm : 0 < m) : ∃ k : Int, (IntKind.u64.wrap n).tmod m = k ∧ 0 ≤ k ∧ k < m := by
  have h : 0 ≤ IntKind.u64.wrap n := by rw [IntKind.wrap_u64]; omega
  exact ⟨_, rfl, Int.tmod_nonneg m h, Int.tmod_lt_of_pos (IntKind.u64.wrap n) hm⟩
theorem kp_pos {q : Nat} : kp (q : Int) = q := by unfold kp; rw [if_neg (by omega)]
theorem le_pos {p q : Nat} (hp : p ≤ 9218868437227405312) (hq : q ≤ 9218868437227405312) : (FloatKind.f64.format.order p q == some .lt || FloatKind.f64.format.order p q == some .eq) = decide (p ≤ q) := by
  rw [ord_lt p q (by omega) (by omega), ord_eq p q (by omega) (by omega), place_pos' hp, place_pos' hq, kp_pos, kp_pos]
  rcases Nat.lt_trichotomy p q with c | c | c
  · rw [decide_eq_true (by omega), decide_eq_true (show p ≤ q by omega)]; rfl
  · rw [decide_eq_false (by omega), decide_eq_true (by omega), decide_eq_true (show p ≤ q by omega)]; rfl
  · rw [decide_eq_false (by omega), decide_eq_false (by omega), decide_eq_false (show ¬ p ≤ q by omega)]; rfl
theorem le_gd {x y : Nat} (hx : x < 18446744073709551616) (hy : y < 18446744073709551616) (gx : gd x = true) (gy : gd y = true) : (FloatKind.f64.format.order x y == some .lt || FloatKind.f64.format.order x y == some .eq) = decide (rg x ≤ rg y) := by
  obtain ⟨x1, x2, x3⟩ := gd_rg hx gx
  obtain ⟨y1, y2, y3⟩ := gd_rg hy gy
  have gx := of_decide_eq_true gx
  have gy := of_decide_eq_true gy
  rw [ord_lt x y hx hy, ord_eq x y hx hy, x2, y2]
  rcases Nat.lt_trichotomy (rg x) (rg y) with c | c | c
  · rw [decide_eq_true (by omega), decide_eq_true (show rg x ≤ rg y by omega)]; rfl
  · rw [decide_eq_false (by omega), decide_eq_true (by omega), decide_eq_true (show rg x ≤ rg y by omega)]; rfl
  · rw [decide_eq_false (by omega), decide_eq_false (by omega), decide_eq_false (show ¬ rg x ≤ rg y by omega)]; rfl
theorem ge_zero {p : Nat} (hp : p ≤ 9218868437227405312) : (FloatKind.f64.format.order p 0 == some .gt || FloatKind.f64.format.order p 0 == some .eq) = true := by
  rw [gd_ord p (by omega)]; unfold gd; rw [place_pos' hp]; exact decide_eq_true (by omega)
theorem gt_zero' {p : Nat} (hp : p ≤ 9218868437227405312) : (FloatKind.f64.format.order p 0 == some .gt) = decide (0 < p) := by
  rw [gt_zero p (by omega), place_pos' hp]
  congr 1; apply propext; omega
theorem eq_zero' {p : Nat} (hp : p ≤ 9218868437227405312) : (FloatKind.f64.format.order p 0 == some .eq) = !decide (0 < p) := by
  rw [eq_zero p (by omega), place_pos' hp]
  by_cases c : 0 < p
  · rw [decide_eq_true c, decide_eq_false (by omega)]; rfl
  · rw [decide_eq_false c, decide_eq_true (by omega)]; rfl
theorem wi_old {y o : Int} {x : Nat} (h : y ≤ o) (h0 : 0 ≤ y) (c : wi o x = true) : wi y x = true := by
  unfold wi at *
  simp only [Bool.and_eq_true, decide_eq_true_eq] at *
  have := fi_mono (show y.toNat ≤ o.toNat by omega)
  exact ⟨h0, c.2.1, by omega⟩
theorem wi_longer {a : Int} {s t : Nat} (gt : gd t = true) (h : rg s ≤ rg t) (c : wi a s = true) : wi a t = true := by
  unfold wi at *
  simp only [Bool.and_eq_true, decide_eq_true_eq] at *
  exact ⟨c.1, gt, by omega⟩

set_option maxHeartbeats 4000000 in
set_option maxRecDepth 20000 in
theorem go_TT (a0 b0 : Int) (s t : Nat) (w : World) (hs : s < 18446744073709551616) (ht : t < 18446744073709551616) (a b : Int) (ea : (IntKind.u64.wrap a0).tmod 1099511627777 = a) (pa : 0 ≤ a) (la : a < 1099511627777) (eb : (IntKind.u64.wrap b0).tmod 1099511627777 = b) (pb : 0 ≤ b) (lb : b < 1099511627777)
    (y o : Int) (ey : (if b < a then b else a) = y) (eo : (if a < b then b else a) = o) (ho : wi o s = true) (hg : gd s = true) (hg2 : gd t = false) :
    Calls Try.prog 6 #[.int .i64 a0, .int .i64 b0, .float .f64 s, .float .f64 t] w fun e w' => e = .returned (.bool true) ∧ Below w.heap.size w w' := by
  have A := awake_any w
  have O := within_any o s w hs
  have Y := within_any y s w hs
  have G := good_any s w hs
  have G' := good_any t w ht
  have P := within_any a s w hs
  have Q := within_any a t w ht
  have R := grade_any y s w hs
  have R' := grade_any o s w hs
  have M := within_any (-1 - a) s w hs
  rw [wi_neg (-1 - a) s (by omega)] at M
  have yo : y ≤ o := by rw [← ey, ← eo]; split <;> split <;> omega
  have py : 0 ≤ y := by rw [← ey]; split <;> omega
  have ly : y ≤ 1099511627776 := by rw [← ey]; split <;> omega
  have g1 := gr_le y s hs
  have g2 := gr_le o s hs
  have g3 := gr_old y o s hs yo py
  have g4 := gr_pos y s hs py ly
  have q1 := ge_zero (p := gr y s) (by omega)
  have q2 := le_pos (p := gr y s) (q := 4607182418800017408) (by omega) (by decide)
  rw [decide_eq_true g1] at q2
  have q3 := ge_zero (p := gr o s) (by omega)
  have q4 := le_pos (p := gr o s) (q := gr y s) (by omega) (by omega)
  rw [decide_eq_true g3] at q4
  have q6 := eq_zero' (p := gr y s) (by omega)
  have q5 := gt_zero' (p := gr y s) (by omega)
  rw [show decide (0 < gr y s) = wi y s by cases c : wi y s <;> simp [g4, c]] at q5 q6
  rw [ho] at O
  have hy := wi_old yo py ho
  rw [hy] at Y q5 q6
  rw [hg] at G
  rw [hg2] at G'
  clear q1 g1 g2 g3 g4 yo py ly ho hg hy hg2
  generalize gr y s = gy at *
  generalize gr o s = go at *
  go_enter Try.func6, Try.ntmps6
  go_wp2_with fail
  refine A.mono ?_
  rintro e w' ⟨rfl, rfl⟩
  go_wp2_with fail
  refine O.mono ?_
  rintro e w' ⟨rfl, rfl⟩
  go_wp2_with fail
  refine Y.mono ?_
  rintro e w' ⟨rfl, rfl⟩
  go_wp2_with fail
  refine G.mono ?_
  rintro e w' ⟨rfl, rfl⟩
  go_wp2_with fail
  refine G'.mono ?_
  rintro e w' ⟨rfl, rfl⟩
  go_wp2_with fail
  refine R.mono ?_
  rintro e w' ⟨rfl, rfl⟩
  go_wp2_with fail
  refine R'.mono ?_
  rintro e w' ⟨rfl, rfl⟩
  go_wp2_with fail
  refine Y.mono ?_
  rintro e w' ⟨rfl, rfl⟩
  go_wp2_with fail
  refine M.mono ?_
  rintro e w' ⟨rfl, rfl⟩
  clear A O Y G G' P Q R R' M
  go_wp2
  all_goals go_ret
  all_goals exact ⟨rfl, Below.refl _ _⟩
set_option maxHeartbeats 4000000 in
set_option maxRecDepth 20000 in
theorem go_TL (a0 b0 : Int) (s t : Nat) (w : World) (hs : s < 18446744073709551616) (ht : t < 18446744073709551616) (a b : Int) (ea : (IntKind.u64.wrap a0).tmod 1099511627777 = a) (pa : 0 ≤ a) (la : a < 1099511627777) (eb : (IntKind.u64.wrap b0).tmod 1099511627777 = b) (pb : 0 ≤ b) (lb : b < 1099511627777)
    (y o : Int) (ey : (if b < a then b else a) = y) (eo : (if a < b then b else a) = o) (ho : wi o s = true) (hg : gd s = true) (hg2 : gd t = true) (hl : ¬ rg s ≤ rg t) :
    Calls Try.prog 6 #[.int .i64 a0, .int .i64 b0, .float .f64 s, .float .f64 t] w fun e w' => e = .returned (.bool true) ∧ Below w.heap.size w w' := by
  have A := awake_any w
  have O := within_any o s w hs
  have Y := within_any y s w hs
  have G := good_any s w hs
  have G' := good_any t w ht
  have P := within_any a s w hs
  have Q := within_any a t w ht
  have R := grade_any y s w hs
  have R' := grade_any o s w hs
  have M := within_any (-1 - a) s w hs
  rw [wi_neg (-1 - a) s (by omega)] at M
  have yo : y ≤ o := by rw [← ey, ← eo]; split <;> split <;> omega
  have py : 0 ≤ y := by rw [← ey]; split <;> omega
  have ly : y ≤ 1099511627776 := by rw [← ey]; split <;> omega
  have g1 := gr_le y s hs
  have g2 := gr_le o s hs
  have g3 := gr_old y o s hs yo py
  have g4 := gr_pos y s hs py ly
  have q1 := ge_zero (p := gr y s) (by omega)
  have q2 := le_pos (p := gr y s) (q := 4607182418800017408) (by omega) (by decide)
  rw [decide_eq_true g1] at q2
  have q3 := ge_zero (p := gr o s) (by omega)
  have q4 := le_pos (p := gr o s) (q := gr y s) (by omega) (by omega)
  rw [decide_eq_true g3] at q4
  have q6 := eq_zero' (p := gr y s) (by omega)
  have q5 := gt_zero' (p := gr y s) (by omega)
  rw [show decide (0 < gr y s) = wi y s by cases c : wi y s <;> simp [g4, c]] at q5 q6
  rw [ho] at O
  have hy := wi_old yo py ho
  rw [hy] at Y q5 q6
  rw [hg] at G
  rw [hg2] at G'
  have le := le_gd hs ht hg hg2
  rw [decide_eq_false hl] at le
  clear q1 g1 g2 g3 g4 yo py ly ho hg hy hg2 hl
  generalize gr y s = gy at *
  generalize gr o s = go at *
  go_enter Try.func6, Try.ntmps6
  go_wp2_with fail
  refine A.mono ?_
  rintro e w' ⟨rfl, rfl⟩
  go_wp2_with fail
  refine O.mono ?_
  rintro e w' ⟨rfl, rfl⟩
  go_wp2_with fail
  refine Y.mono ?_
  rintro e w' ⟨rfl, rfl⟩
  go_wp2_with fail
  refine G.mono ?_
  rintro e w' ⟨rfl, rfl⟩
  go_wp2_with fail
  refine G'.mono ?_
  rintro e w' ⟨rfl, rfl⟩
  go_wp2_with fail
  refine R.mono ?_
  rintro e w' ⟨rfl, rfl⟩
  go_wp2_with fail
  refine R'.mono ?_
  rintro e w' ⟨rfl, rfl⟩
  go_wp2_with fail
  refine Y.mono ?_
  rintro e w' ⟨rfl, rfl⟩
  go_wp2_with fail
  refine M.mono ?_
  rintro e w' ⟨rfl, rfl⟩
  clear A O Y G G' P Q R R' M
  go_wp2
  all_goals go_ret
  all_goals exact ⟨rfl, Below.refl _ _⟩
set_option maxHeartbeats 4000000 in
set_option maxRecDepth 20000 in
theorem go_TP (a0 b0 : Int) (s t : Nat) (w : World) (hs : s < 18446744073709551616) (ht : t < 18446744073709551616) (a b : Int) (ea : (IntKind.u64.wrap a0).tmod 1099511627777 = a) (pa : 0 ≤ a) (la : a < 1099511627777) (eb : (IntKind.u64.wrap b0).tmod 1099511627777 = b) (pb : 0 ≤ b) (lb : b < 1099511627777)
    (y o : Int) (ey : (if b < a then b else a) = y) (eo : (if a < b then b else a) = o) (ho : wi o s = true) (hg : gd s = true) (hg2 : gd t = true) (hl : rg s ≤ rg t) (hp : wi a s = false) :
    Calls Try.prog 6 #[.int .i64 a0, .int .i64 b0, .float .f64 s, .float .f64 t] w fun e w' => e = .returned (.bool true) ∧ Below w.heap.size w w' := by
  have A := awake_any w
  have O := within_any o s w hs
  have Y := within_any y s w hs
  have G := good_any s w hs
  have G' := good_any t w ht
  have P := within_any a s w hs
  have Q := within_any a t w ht
  have R := grade_any y s w hs
  have R' := grade_any o s w hs
  have M := within_any (-1 - a) s w hs
  rw [wi_neg (-1 - a) s (by omega)] at M
  have yo : y ≤ o := by rw [← ey, ← eo]; split <;> split <;> omega
  have py : 0 ≤ y := by rw [← ey]; split <;> omega
  have ly : y ≤ 1099511627776 := by rw [← ey]; split <;> omega
  have g1 := gr_le y s hs
  have g2 := gr_le o s hs
  have g3 := gr_old y o s hs yo py
  have g4 := gr_pos y s hs py ly
  have q1 := ge_zero (p := gr y s) (by omega)
  have q2 := le_pos (p := gr y s) (q := 4607182418800017408) (by omega) (by decide)
  rw [decide_eq_true g1] at q2
  have q3 := ge_zero (p := gr o s) (by omega)
  have q4 := le_pos (p := gr o s) (q := gr y s) (by omega) (by omega)
  rw [decide_eq_true g3] at q4
  have q6 := eq_zero' (p := gr y s) (by omega)
  have q5 := gt_zero' (p := gr y s) (by omega)
  rw [show decide (0 < gr y s) = wi y s by cases c : wi y s <;> simp [g4, c]] at q5 q6
  rw [ho] at O
  have hy := wi_old yo py ho
  rw [hy] at Y q5 q6
  rw [hg] at G
  rw [hg2] at G'
  have le := le_gd hs ht hg hg2
  rw [decide_eq_true hl] at le
  rw [hp] at P
  clear q1 g1 g2 g3 g4 yo py ly ho hg hy hg2 hl hp
  generalize gr y s = gy at *
  generalize gr o s = go at *
  go_enter Try.func6, Try.ntmps6
  go_wp2_with fail
  refine A.mono ?_
  rintro e w' ⟨rfl, rfl⟩
  go_wp2_with fail
  refine O.mono ?_
  rintro e w' ⟨rfl, rfl⟩
  go_wp2_with fail
  refine Y.mono ?_
  rintro e w' ⟨rfl, rfl⟩
  go_wp2_with fail
  refine G.mono ?_
  rintro e w' ⟨rfl, rfl⟩
  go_wp2_with fail
  refine G'.mono ?_
  rintro e w' ⟨rfl, rfl⟩
  go_wp2_with fail
  refine P.mono ?_
  rintro e w' ⟨rfl, rfl⟩
  go_wp2_with fail
  refine R.mono ?_
  rintro e w' ⟨rfl, rfl⟩
  go_wp2_with fail
  refine R'.mono ?_
  rintro e w' ⟨rfl, rfl⟩
  go_wp2_with fail
  refine Y.mono ?_
  rintro e w' ⟨rfl, rfl⟩
  go_wp2_with fail
  refine M.mono ?_
  rintro e w' ⟨rfl, rfl⟩
  clear A O Y G G' P Q R R' M
  go_wp2
  all_goals go_ret
  all_goals exact ⟨rfl, Below.refl _ _⟩
set_option maxHeartbeats 4000000 in
set_option maxRecDepth 20000 in
theorem go_TQ (a0 b0 : Int) (s t : Nat) (w : World) (hs : s < 18446744073709551616) (ht : t < 18446744073709551616) (a b : Int) (ea : (IntKind.u64.wrap a0).tmod 1099511627777 = a) (pa : 0 ≤ a) (la : a < 1099511627777) (eb : (IntKind.u64.wrap b0).tmod 1099511627777 = b) (pb : 0 ≤ b) (lb : b < 1099511627777)
    (y o : Int) (ey : (if b < a then b else a) = y) (eo : (if a < b then b else a) = o) (ho : wi o s = true) (hg : gd s = true) (hg2 : gd t = true) (hl : rg s ≤ rg t) (hp : wi a s = true) :
    Calls Try.prog 6 #[.int .i64 a0, .int .i64 b0, .float .f64 s, .float .f64 t] w fun e w' => e = .returned (.bool true) ∧ Below w.heap.size w w' := by
  have A := awake_any w
  have O := within_any o s w hs
  have Y := within_any y s w hs
  have G := good_any s w hs
  have G' := good_any t w ht
  have P := within_any a s w hs
  have Q := within_any a t w ht
  have R := grade_any y s w hs
  have R' := grade_any o s w hs
  have M := within_any (-1 - a) s w hs
  rw [wi_neg (-1 - a) s (by omega)] at M
  have yo : y ≤ o := by rw [← ey, ← eo]; split <;> split <;> omega
  have py : 0 ≤ y := by rw [← ey]; split <;> omega
  have ly : y ≤ 1099511627776 := by rw [← ey]; split <;> omega
  have g1 := gr_le y s hs
  have g2 := gr_le o s hs
  have g3 := gr_old y o s hs yo py
  have g4 := gr_pos y s hs py ly
  have q1 := ge_zero (p := gr y s) (by omega)
  have q2 := le_pos (p := gr y s) (q := 4607182418800017408) (by omega) (by decide)
  rw [decide_eq_true g1] at q2
  have q3 := ge_zero (p := gr o s) (by omega)
  have q4 := le_pos (p := gr o s) (q := gr y s) (by omega) (by omega)
  rw [decide_eq_true g3] at q4
  have q6 := eq_zero' (p := gr y s) (by omega)
  have q5 := gt_zero' (p := gr y s) (by omega)
  rw [show decide (0 < gr y s) = wi y s by cases c : wi y s <;> simp [g4, c]] at q5 q6
  rw [ho] at O
  have hy := wi_old yo py ho
  rw [hy] at Y q5 q6
  rw [hg] at G
  rw [hg2] at G'
  have le := le_gd hs ht hg hg2
  rw [decide_eq_true hl] at le
  rw [hp] at P
  have hq := wi_longer hg2 hl hp
  rw [hq] at Q
  clear q1 g1 g2 g3 g4 yo py ly ho hg hy hg2 hl hp hq
  generalize gr y s = gy at *
  generalize gr o s = go at *
  go_enter Try.func6, Try.ntmps6
  go_wp2_with fail
  refine A.mono ?_
  rintro e w' ⟨rfl, rfl⟩
  go_wp2_with fail
  refine O.mono ?_
  rintro e w' ⟨rfl, rfl⟩
  go_wp2_with fail
  refine Y.mono ?_
  rintro e w' ⟨rfl, rfl⟩
  go_wp2_with fail
  refine G.mono ?_
  rintro e w' ⟨rfl, rfl⟩
  go_wp2_with fail
  refine G'.mono ?_
  rintro e w' ⟨rfl, rfl⟩
  go_wp2_with fail
  refine P.mono ?_
  rintro e w' ⟨rfl, rfl⟩
  go_wp2_with fail
  refine Q.mono ?_
  rintro e w' ⟨rfl, rfl⟩
  go_wp2_with fail
  refine R.mono ?_
  rintro e w' ⟨rfl, rfl⟩
  go_wp2_with fail
  refine R'.mono ?_
  rintro e w' ⟨rfl, rfl⟩
  go_wp2_with fail
  refine Y.mono ?_
  rintro e w' ⟨rfl, rfl⟩
  go_wp2_with fail
  refine M.mono ?_
  rintro e w' ⟨rfl, rfl⟩
  clear A O Y G G' P Q R R' M
  go_wp2
  all_goals go_ret
  all_goals exact ⟨rfl, Below.refl _ _⟩
set_option maxHeartbeats 4000000 in
set_option maxRecDepth 20000 in
theorem go_tT (a0 b0 : Int) (s t : Nat) (w : World) (hs : s < 18446744073709551616) (ht : t < 18446744073709551616) (a b : Int) (ea : (IntKind.u64.wrap a0).tmod 1099511627777 = a) (pa : 0 ≤ a) (la : a < 1099511627777) (eb : (IntKind.u64.wrap b0).tmod 1099511627777 = b) (pb : 0 ≤ b) (lb : b < 1099511627777)
    (y o : Int) (ey : (if b < a then b else a) = y) (eo : (if a < b then b else a) = o) (ho : wi o s = false) (hy : wi y s = true) (hg : gd s = true) (hg2 : gd t = false) :
    Calls Try.prog 6 #[.int .i64 a0, .int .i64 b0, .float .f64 s, .float .f64 t] w fun e w' => e = .returned (.bool true) ∧ Below w.heap.size w w' := by
  have A := awake_any w
  have O := within_any o s w hs
  have Y := within_any y s w hs
  have G := good_any s w hs
  have G' := good_any t w ht
  have P := within_any a s w hs
  have Q := within_any a t w ht
  have R := grade_any y s w hs
  have R' := grade_any o s w hs
  have M := within_any (-1 - a) s w hs
  rw [wi_neg (-1 - a) s (by omega)] at M
  have yo : y ≤ o := by rw [← ey, ← eo]; split <;> split <;> omega
  have py : 0 ≤ y := by rw [← ey]; split <;> omega
  have ly : y ≤ 1099511627776 := by rw [← ey]; split <;> omega
  have g1 := gr_le y s hs
  have g2 := gr_le o s hs
  have g3 := gr_old y o s hs yo py
  have g4 := gr_pos y s hs py ly
  have q1 := ge_zero (p := gr y s) (by omega)
  have q2 := le_pos (p := gr y s) (q := 4607182418800017408) (by omega) (by decide)
  rw [decide_eq_true g1] at q2
  have q3 := ge_zero (p := gr o s) (by omega)
  have q4 := le_pos (p := gr o s) (q := gr y s) (by omega) (by omega)
  rw [decide_eq_true g3] at q4
  have q6 := eq_zero' (p := gr y s) (by omega)
  have q5 := gt_zero' (p := gr y s) (by omega)
  rw [show decide (0 < gr y s) = wi y s by cases c : wi y s <;> simp [g4, c]] at q5 q6
  rw [ho] at O
  rw [hy] at Y q5 q6
  rw [hg] at G
  rw [hg2] at G'
  clear q1 g1 g2 g3 g4 yo py ly ho hg hy hg2
  generalize gr y s = gy at *
  generalize gr o s = go at *
  go_enter Try.func6, Try.ntmps6
  go_wp2_with fail
  refine A.mono ?_
  rintro e w' ⟨rfl, rfl⟩
  go_wp2_with fail
  refine O.mono ?_
  rintro e w' ⟨rfl, rfl⟩
  go_wp2_with fail
  refine G.mono ?_
  rintro e w' ⟨rfl, rfl⟩
  go_wp2_with fail
  refine G'.mono ?_
  rintro e w' ⟨rfl, rfl⟩
  go_wp2_with fail
  refine R.mono ?_
  rintro e w' ⟨rfl, rfl⟩
  go_wp2_with fail
  refine R'.mono ?_
  rintro e w' ⟨rfl, rfl⟩
  go_wp2_with fail
  refine Y.mono ?_
  rintro e w' ⟨rfl, rfl⟩
  go_wp2_with fail
  refine M.mono ?_
  rintro e w' ⟨rfl, rfl⟩
  clear A O Y G G' P Q R R' M
  go_wp2
  all_goals go_ret
  all_goals exact ⟨rfl, Below.refl _ _⟩
set_option maxHeartbeats 4000000 in
set_option maxRecDepth 20000 in
theorem go_tL (a0 b0 : Int) (s t : Nat) (w : World) (hs : s < 18446744073709551616) (ht : t < 18446744073709551616) (a b : Int) (ea : (IntKind.u64.wrap a0).tmod 1099511627777 = a) (pa : 0 ≤ a) (la : a < 1099511627777) (eb : (IntKind.u64.wrap b0).tmod 1099511627777 = b) (pb : 0 ≤ b) (lb : b < 1099511627777)
    (y o : Int) (ey : (if b < a then b else a) = y) (eo : (if a < b then b else a) = o) (ho : wi o s = false) (hy : wi y s = true) (hg : gd s = true) (hg2 : gd t = true) (hl : ¬ rg s ≤ rg t) :
    Calls Try.prog 6 #[.int .i64 a0, .int .i64 b0, .float .f64 s, .float .f64 t] w fun e w' => e = .returned (.bool true) ∧ Below w.heap.size w w' := by
  have A := awake_any w
  have O := within_any o s w hs
  have Y := within_any y s w hs
  have G := good_any s w hs
  have G' := good_any t w ht
  have P := within_any a s w hs
  have Q := within_any a t w ht
  have R := grade_any y s w hs
  have R' := grade_any o s w hs
  have M := within_any (-1 - a) s w hs
  rw [wi_neg (-1 - a) s (by omega)] at M
  have yo : y ≤ o := by rw [← ey, ← eo]; split <;> split <;> omega
  have py : 0 ≤ y := by rw [← ey]; split <;> omega
  have ly : y ≤ 1099511627776 := by rw [← ey]; split <;> omega
  have g1 := gr_le y s hs
  have g2 := gr_le o s hs
  have g3 := gr_old y o s hs yo py
  have g4 := gr_pos y s hs py ly
  have q1 := ge_zero (p := gr y s) (by omega)
  have q2 := le_pos (p := gr y s) (q := 4607182418800017408) (by omega) (by decide)
  rw [decide_eq_true g1] at q2
  have q3 := ge_zero (p := gr o s) (by omega)
  have q4 := le_pos (p := gr o s) (q := gr y s) (by omega) (by omega)
  rw [decide_eq_true g3] at q4
  have q6 := eq_zero' (p := gr y s) (by omega)
  have q5 := gt_zero' (p := gr y s) (by omega)
  rw [show decide (0 < gr y s) = wi y s by cases c : wi y s <;> simp [g4, c]] at q5 q6
  rw [ho] at O
  rw [hy] at Y q5 q6
  rw [hg] at G
  rw [hg2] at G'
  have le := le_gd hs ht hg hg2
  rw [decide_eq_false hl] at le
  clear q1 g1 g2 g3 g4 yo py ly ho hg hy hg2 hl
  generalize gr y s = gy at *
  generalize gr o s = go at *
  go_enter Try.func6, Try.ntmps6
  go_wp2_with fail
  refine A.mono ?_
  rintro e w' ⟨rfl, rfl⟩
  go_wp2_with fail
  refine O.mono ?_
  rintro e w' ⟨rfl, rfl⟩
  go_wp2_with fail
  refine G.mono ?_
  rintro e w' ⟨rfl, rfl⟩
  go_wp2_with fail
  refine G'.mono ?_
  rintro e w' ⟨rfl, rfl⟩
  go_wp2_with fail
  refine R.mono ?_
  rintro e w' ⟨rfl, rfl⟩
  go_wp2_with fail
  refine R'.mono ?_
  rintro e w' ⟨rfl, rfl⟩
  go_wp2_with fail
  refine Y.mono ?_
  rintro e w' ⟨rfl, rfl⟩
  go_wp2_with fail
  refine M.mono ?_
  rintro e w' ⟨rfl, rfl⟩
  clear A O Y G G' P Q R R' M
  go_wp2
  all_goals go_ret
  all_goals exact ⟨rfl, Below.refl _ _⟩
set_option maxHeartbeats 4000000 in
set_option maxRecDepth 20000 in
theorem go_tP (a0 b0 : Int) (s t : Nat) (w : World) (hs : s < 18446744073709551616) (ht : t < 18446744073709551616) (a b : Int) (ea : (IntKind.u64.wrap a0).tmod 1099511627777 = a) (pa : 0 ≤ a) (la : a < 1099511627777) (eb : (IntKind.u64.wrap b0).tmod 1099511627777 = b) (pb : 0 ≤ b) (lb : b < 1099511627777)
    (y o : Int) (ey : (if b < a then b else a) = y) (eo : (if a < b then b else a) = o) (ho : wi o s = false) (hy : wi y s = true) (hg : gd s = true) (hg2 : gd t = true) (hl : rg s ≤ rg t) (hp : wi a s = false) :
    Calls Try.prog 6 #[.int .i64 a0, .int .i64 b0, .float .f64 s, .float .f64 t] w fun e w' => e = .returned (.bool true) ∧ Below w.heap.size w w' := by
  have A := awake_any w
  have O := within_any o s w hs
  have Y := within_any y s w hs
  have G := good_any s w hs
  have G' := good_any t w ht
  have P := within_any a s w hs
  have Q := within_any a t w ht
  have R := grade_any y s w hs
  have R' := grade_any o s w hs
  have M := within_any (-1 - a) s w hs
  rw [wi_neg (-1 - a) s (by omega)] at M
  have yo : y ≤ o := by rw [← ey, ← eo]; split <;> split <;> omega
  have py : 0 ≤ y := by rw [← ey]; split <;> omega
  have ly : y ≤ 1099511627776 := by rw [← ey]; split <;> omega
  have g1 := gr_le y s hs
  have g2 := gr_le o s hs
  have g3 := gr_old y o s hs yo py
  have g4 := gr_pos y s hs py ly
  have q1 := ge_zero (p := gr y s) (by omega)
  have q2 := le_pos (p := gr y s) (q := 4607182418800017408) (by omega) (by decide)
  rw [decide_eq_true g1] at q2
  have q3 := ge_zero (p := gr o s) (by omega)
  have q4 := le_pos (p := gr o s) (q := gr y s) (by omega) (by omega)
  rw [decide_eq_true g3] at q4
  have q6 := eq_zero' (p := gr y s) (by omega)
  have q5 := gt_zero' (p := gr y s) (by omega)
  rw [show decide (0 < gr y s) = wi y s by cases c : wi y s <;> simp [g4, c]] at q5 q6
  rw [ho] at O
  rw [hy] at Y q5 q6
  rw [hg] at G
  rw [hg2] at G'
  have le := le_gd hs ht hg hg2
  rw [decide_eq_true hl] at le
  rw [hp] at P
  clear q1 g1 g2 g3 g4 yo py ly ho hg hy hg2 hl hp
  generalize gr y s = gy at *
  generalize gr o s = go at *
  go_enter Try.func6, Try.ntmps6
  go_wp2_with fail
  refine A.mono ?_
  rintro e w' ⟨rfl, rfl⟩
  go_wp2_with fail
  refine O.mono ?_
  rintro e w' ⟨rfl, rfl⟩
  go_wp2_with fail
  refine G.mono ?_
  rintro e w' ⟨rfl, rfl⟩
  go_wp2_with fail
  refine G'.mono ?_
  rintro e w' ⟨rfl, rfl⟩
  go_wp2_with fail
  refine P.mono ?_
  rintro e w' ⟨rfl, rfl⟩
  go_wp2_with fail
  refine R.mono ?_
  rintro e w' ⟨rfl, rfl⟩
  go_wp2_with fail
  refine R'.mono ?_
  rintro e w' ⟨rfl, rfl⟩
  go_wp2_with fail
  refine Y.mono ?_
  rintro e w' ⟨rfl, rfl⟩
  go_wp2_with fail
  refine M.mono ?_
  rintro e w' ⟨rfl, rfl⟩
  clear A O Y G G' P Q R R' M
  go_wp2
  all_goals go_ret
  all_goals exact ⟨rfl, Below.refl _ _⟩
set_option maxHeartbeats 4000000 in
set_option maxRecDepth 20000 in
theorem go_tQ (a0 b0 : Int) (s t : Nat) (w : World) (hs : s < 18446744073709551616) (ht : t < 18446744073709551616) (a b : Int) (ea : (IntKind.u64.wrap a0).tmod 1099511627777 = a) (pa : 0 ≤ a) (la : a < 1099511627777) (eb : (IntKind.u64.wrap b0).tmod 1099511627777 = b) (pb : 0 ≤ b) (lb : b < 1099511627777)
    (y o : Int) (ey : (if b < a then b else a) = y) (eo : (if a < b then b else a) = o) (ho : wi o s = false) (hy : wi y s = true) (hg : gd s = true) (hg2 : gd t = true) (hl : rg s ≤ rg t) (hp : wi a s = true) :
    Calls Try.prog 6 #[.int .i64 a0, .int .i64 b0, .float .f64 s, .float .f64 t] w fun e w' => e = .returned (.bool true) ∧ Below w.heap.size w w' := by
  have A := awake_any w
  have O := within_any o s w hs
  have Y := within_any y s w hs
  have G := good_any s w hs
  have G' := good_any t w ht
  have P := within_any a s w hs
  have Q := within_any a t w ht
  have R := grade_any y s w hs
  have R' := grade_any o s w hs
  have M := within_any (-1 - a) s w hs
  rw [wi_neg (-1 - a) s (by omega)] at M
  have yo : y ≤ o := by rw [← ey, ← eo]; split <;> split <;> omega
  have py : 0 ≤ y := by rw [← ey]; split <;> omega
  have ly : y ≤ 1099511627776 := by rw [← ey]; split <;> omega
  have g1 := gr_le y s hs
  have g2 := gr_le o s hs
  have g3 := gr_old y o s hs yo py
  have g4 := gr_pos y s hs py ly
  have q1 := ge_zero (p := gr y s) (by omega)
  have q2 := le_pos (p := gr y s) (q := 4607182418800017408) (by omega) (by decide)
  rw [decide_eq_true g1] at q2
  have q3 := ge_zero (p := gr o s) (by omega)
  have q4 := le_pos (p := gr o s) (q := gr y s) (by omega) (by omega)
  rw [decide_eq_true g3] at q4
  have q6 := eq_zero' (p := gr y s) (by omega)
  have q5 := gt_zero' (p := gr y s) (by omega)
  rw [show decide (0 < gr y s) = wi y s by cases c : wi y s <;> simp [g4, c]] at q5 q6
  rw [ho] at O
  rw [hy] at Y q5 q6
  rw [hg] at G
  rw [hg2] at G'
  have le := le_gd hs ht hg hg2
  rw [decide_eq_true hl] at le
  rw [hp] at P
  have hq := wi_longer hg2 hl hp
  rw [hq] at Q
  clear q1 g1 g2 g3 g4 yo py ly ho hg hy hg2 hl hp hq
  generalize gr y s = gy at *
  generalize gr o s = go at *
  go_enter Try.func6, Try.ntmps6
  go_wp2_with fail
  refine A.mono ?_
  rintro e w' ⟨rfl, rfl⟩
  go_wp2_with fail
  refine O.mono ?_
  rintro e w' ⟨rfl, rfl⟩
  go_wp2_with fail
  refine G.mono ?_
  rintro e w' ⟨rfl, rfl⟩
  go_wp2_with fail
  refine G'.mono ?_
  rintro e w' ⟨rfl, rfl⟩
  go_wp2_with fail
  refine P.mono ?_
  rintro e w' ⟨rfl, rfl⟩
  go_wp2_with fail
  refine Q.mono ?_
  rintro e w' ⟨rfl, rfl⟩
  go_wp2_with fail
  refine R.mono ?_
  rintro e w' ⟨rfl, rfl⟩
  go_wp2_with fail
  refine R'.mono ?_
  rintro e w' ⟨rfl, rfl⟩
  go_wp2_with fail
  refine Y.mono ?_
  rintro e w' ⟨rfl, rfl⟩
  go_wp2_with fail
  refine M.mono ?_
  rintro e w' ⟨rfl, rfl⟩
  clear A O Y G G' P Q R R' M
  go_wp2
  all_goals go_ret
  all_goals exact ⟨rfl, Below.refl _ _⟩
set_option maxHeartbeats 4000000 in
set_option maxRecDepth 20000 in
theorem go_fS (a0 b0 : Int) (s t : Nat) (w : World) (hs : s < 18446744073709551616) (ht : t < 18446744073709551616) (a b : Int) (ea : (IntKind.u64.wrap a0).tmod 1099511627777 = a) (pa : 0 ≤ a) (la : a < 1099511627777) (eb : (IntKind.u64.wrap b0).tmod 1099511627777 = b) (pb : 0 ≤ b) (lb : b < 1099511627777)
    (y o : Int) (ey : (if b < a then b else a) = y) (eo : (if a < b then b else a) = o) (ho : wi o s = false) (hy : wi y s = false) (hg : gd s = false) :
    Calls Try.prog 6 #[.int .i64 a0, .int .i64 b0, .float .f64 s, .float .f64 t] w fun e w' => e = .returned (.bool true) ∧ Below w.heap.size w w' := by
  have A := awake_any w
  have O := within_any o s w hs
  have Y := within_any y s w hs
  have G := good_any s w hs
  have G' := good_any t w ht
  have P := within_any a s w hs
  have Q := within_any a t w ht
  have R := grade_any y s w hs
  have R' := grade_any o s w hs
  have M := within_any (-1 - a) s w hs
  rw [wi_neg (-1 - a) s (by omega)] at M
  have yo : y ≤ o := by rw [← ey, ← eo]; split <;> split <;> omega
  have py : 0 ≤ y := by rw [← ey]; split <;> omega
  have ly : y ≤ 1099511627776 := by rw [← ey]; split <;> omega
  have g1 := gr_le y s hs
  have g2 := gr_le o s hs
  have g3 := gr_old y o s hs yo py
  have g4 := gr_pos y s hs py ly
  have q1 := ge_zero (p := gr y s) (by omega)
  have q2 := le_pos (p := gr y s) (q := 4607182418800017408) (by omega) (by decide)
  rw [decide_eq_true g1] at q2
  have q3 := ge_zero (p := gr o s) (by omega)
  have q4 := le_pos (p := gr o s) (q := gr y s) (by omega) (by omega)
  rw [decide_eq_true g3] at q4
  have q6 := eq_zero' (p := gr y s) (by omega)
  have q5 := gt_zero' (p := gr y s) (by omega)
  rw [show decide (0 < gr y s) = wi y s by cases c : wi y s <;> simp [g4, c]] at q5 q6
  rw [ho] at O
  rw [hy] at Y q5 q6
  rw [hg] at G
  clear q1 g1 g2 g3 g4 yo py ly ho hg hy
  generalize gr y s = gy at *
  generalize gr o s = go at *
  go_enter Try.func6, Try.ntmps6
  go_wp2_with fail
  refine A.mono ?_
  rintro e w' ⟨rfl, rfl⟩
  go_wp2_with fail
  refine O.mono ?_
  rintro e w' ⟨rfl, rfl⟩
  go_wp2_with fail
  refine G.mono ?_
  rintro e w' ⟨rfl, rfl⟩
  go_wp2_with fail
  refine R.mono ?_
  rintro e w' ⟨rfl, rfl⟩
  go_wp2_with fail
  refine R'.mono ?_
  rintro e w' ⟨rfl, rfl⟩
  go_wp2_with fail
  refine Y.mono ?_
  rintro e w' ⟨rfl, rfl⟩
  go_wp2_with fail
  refine M.mono ?_
  rintro e w' ⟨rfl, rfl⟩
  clear A O Y G G' P Q R R' M
  go_wp2
  all_goals go_ret
  all_goals exact ⟨rfl, Below.refl _ _⟩
set_option maxHeartbeats 4000000 in
set_option maxRecDepth 20000 in
theorem go_fT (a0 b0 : Int) (s t : Nat) (w : World) (hs : s < 18446744073709551616) (ht : t < 18446744073709551616) (a b : Int) (ea : (IntKind.u64.wrap a0).tmod 1099511627777 = a) (pa : 0 ≤ a) (la : a < 1099511627777) (eb : (IntKind.u64.wrap b0).tmod 1099511627777 = b) (pb : 0 ≤ b) (lb : b < 1099511627777)
    (y o : Int) (ey : (if b < a then b else a) = y) (eo : (if a < b then b else a) = o) (ho : wi o s = false) (hy : wi y s = false) (hg : gd s = true) (hg2 : gd t = false) :
    Calls Try.prog 6 #[.int .i64 a0, .int .i64 b0, .float .f64 s, .float .f64 t] w fun e w' => e = .returned (.bool true) ∧ Below w.heap.size w w' := by
  have A := awake_any w
  have O := within_any o s w hs
  have Y := within_any y s w hs
  have G := good_any s w hs
  have G' := good_any t w ht
  have P := within_any a s w hs
  have Q := within_any a t w ht
  have R := grade_any y s w hs
  have R' := grade_any o s w hs
  have M := within_any (-1 - a) s w hs
  rw [wi_neg (-1 - a) s (by omega)] at M
  have yo : y ≤ o := by rw [← ey, ← eo]; split <;> split <;> omega
  have py : 0 ≤ y := by rw [← ey]; split <;> omega
  have ly : y ≤ 1099511627776 := by rw [← ey]; split <;> omega
  have g1 := gr_le y s hs
  have g2 := gr_le o s hs
  have g3 := gr_old y o s hs yo py
  have g4 := gr_pos y s hs py ly
  have q1 := ge_zero (p := gr y s) (by omega)
  have q2 := le_pos (p := gr y s) (q := 4607182418800017408) (by omega) (by decide)
  rw [decide_eq_true g1] at q2
  have q3 := ge_zero (p := gr o s) (by omega)
  have q4 := le_pos (p := gr o s) (q := gr y s) (by omega) (by omega)
  rw [decide_eq_true g3] at q4
  have q6 := eq_zero' (p := gr y s) (by omega)
  have q5 := gt_zero' (p := gr y s) (by omega)
  rw [show decide (0 < gr y s) = wi y s by cases c : wi y s <;> simp [g4, c]] at q5 q6
  rw [ho] at O
  rw [hy] at Y q5 q6
  rw [hg] at G
  rw [hg2] at G'
  clear q1 g1 g2 g3 g4 yo py ly ho hg hy hg2
  generalize gr y s = gy at *
  generalize gr o s = go at *
  go_enter Try.func6, Try.ntmps6
  go_wp2_with fail
  refine A.mono ?_
  rintro e w' ⟨rfl, rfl⟩
  go_wp2_with fail
  refine O.mono ?_
  rintro e w' ⟨rfl, rfl⟩
  go_wp2_with fail
  refine G.mono ?_
  rintro e w' ⟨rfl, rfl⟩
  go_wp2_with fail
  refine G'.mono ?_
  rintro e w' ⟨rfl, rfl⟩
  go_wp2_with fail
  refine R.mono ?_
  rintro e w' ⟨rfl, rfl⟩
  go_wp2_with fail
  refine R'.mono ?_
  rintro e w' ⟨rfl, rfl⟩
  go_wp2_with fail
  refine Y.mono ?_
  rintro e w' ⟨rfl, rfl⟩
  go_wp2_with fail
  refine M.mono ?_
  rintro e w' ⟨rfl, rfl⟩
  clear A O Y G G' P Q R R' M
  go_wp2
  all_goals go_ret
  all_goals exact ⟨rfl, Below.refl _ _⟩
set_option maxHeartbeats 4000000 in
set_option maxRecDepth 20000 in
theorem go_fL (a0 b0 : Int) (s t : Nat) (w : World) (hs : s < 18446744073709551616) (ht : t < 18446744073709551616) (a b : Int) (ea : (IntKind.u64.wrap a0).tmod 1099511627777 = a) (pa : 0 ≤ a) (la : a < 1099511627777) (eb : (IntKind.u64.wrap b0).tmod 1099511627777 = b) (pb : 0 ≤ b) (lb : b < 1099511627777)
    (y o : Int) (ey : (if b < a then b else a) = y) (eo : (if a < b then b else a) = o) (ho : wi o s = false) (hy : wi y s = false) (hg : gd s = true) (hg2 : gd t = true) (hl : ¬ rg s ≤ rg t) :
    Calls Try.prog 6 #[.int .i64 a0, .int .i64 b0, .float .f64 s, .float .f64 t] w fun e w' => e = .returned (.bool true) ∧ Below w.heap.size w w' := by
  have A := awake_any w
  have O := within_any o s w hs
  have Y := within_any y s w hs
  have G := good_any s w hs
  have G' := good_any t w ht
  have P := within_any a s w hs
  have Q := within_any a t w ht
  have R := grade_any y s w hs
  have R' := grade_any o s w hs
  have M := within_any (-1 - a) s w hs
  rw [wi_neg (-1 - a) s (by omega)] at M
  have yo : y ≤ o := by rw [← ey, ← eo]; split <;> split <;> omega
  have py : 0 ≤ y := by rw [← ey]; split <;> omega
  have ly : y ≤ 1099511627776 := by rw [← ey]; split <;> omega
  have g1 := gr_le y s hs
  have g2 := gr_le o s hs
  have g3 := gr_old y o s hs yo py
  have g4 := gr_pos y s hs py ly
  have q1 := ge_zero (p := gr y s) (by omega)
  have q2 := le_pos (p := gr y s) (q := 4607182418800017408) (by omega) (by decide)
  rw [decide_eq_true g1] at q2
  have q3 := ge_zero (p := gr o s) (by omega)
  have q4 := le_pos (p := gr o s) (q := gr y s) (by omega) (by omega)
  rw [decide_eq_true g3] at q4
  have q6 := eq_zero' (p := gr y s) (by omega)
  have q5 := gt_zero' (p := gr y s) (by omega)
  rw [show decide (0 < gr y s) = wi y s by cases c : wi y s <;> simp [g4, c]] at q5 q6
  rw [ho] at O
  rw [hy] at Y q5 q6
  rw [hg] at G
  rw [hg2] at G'
  have le := le_gd hs ht hg hg2
  rw [decide_eq_false hl] at le
  clear q1 g1 g2 g3 g4 yo py ly ho hg hy hg2 hl
  generalize gr y s = gy at *
  generalize gr o s = go at *
  go_enter Try.func6, Try.ntmps6
  go_wp2_with fail
  refine A.mono ?_
  rintro e w' ⟨rfl, rfl⟩
  go_wp2_with fail
  refine O.mono ?_
  rintro e w' ⟨rfl, rfl⟩
  go_wp2_with fail
  refine G.mono ?_
  rintro e w' ⟨rfl, rfl⟩
  go_wp2_with fail
  refine G'.mono ?_
  rintro e w' ⟨rfl, rfl⟩
  go_wp2_with fail
  refine R.mono ?_
  rintro e w' ⟨rfl, rfl⟩
  go_wp2_with fail
  refine R'.mono ?_
  rintro e w' ⟨rfl, rfl⟩
  go_wp2_with fail
  refine Y.mono ?_
  rintro e w' ⟨rfl, rfl⟩
  go_wp2_with fail
  refine M.mono ?_
  rintro e w' ⟨rfl, rfl⟩
  clear A O Y G G' P Q R R' M
  go_wp2
  all_goals go_ret
  all_goals exact ⟨rfl, Below.refl _ _⟩
set_option maxHeartbeats 4000000 in
set_option maxRecDepth 20000 in
theorem go_fP (a0 b0 : Int) (s t : Nat) (w : World) (hs : s < 18446744073709551616) (ht : t < 18446744073709551616) (a b : Int) (ea : (IntKind.u64.wrap a0).tmod 1099511627777 = a) (pa : 0 ≤ a) (la : a < 1099511627777) (eb : (IntKind.u64.wrap b0).tmod 1099511627777 = b) (pb : 0 ≤ b) (lb : b < 1099511627777)
    (y o : Int) (ey : (if b < a then b else a) = y) (eo : (if a < b then b else a) = o) (ho : wi o s = false) (hy : wi y s = false) (hg : gd s = true) (hg2 : gd t = true) (hl : rg s ≤ rg t) (hp : wi a s = false) :
    Calls Try.prog 6 #[.int .i64 a0, .int .i64 b0, .float .f64 s, .float .f64 t] w fun e w' => e = .returned (.bool true) ∧ Below w.heap.size w w' := by
  have A := awake_any w
  have O := within_any o s w hs
  have Y := within_any y s w hs
  have G := good_any s w hs
  have G' := good_any t w ht
  have P := within_any a s w hs
  have Q := within_any a t w ht
  have R := grade_any y s w hs
  have R' := grade_any o s w hs
  have M := within_any (-1 - a) s w hs
  rw [wi_neg (-1 - a) s (by omega)] at M
  have yo : y ≤ o := by rw [← ey, ← eo]; split <;> split <;> omega
  have py : 0 ≤ y := by rw [← ey]; split <;> omega
  have ly : y ≤ 1099511627776 := by rw [← ey]; split <;> omega
  have g1 := gr_le y s hs
  have g2 := gr_le o s hs
  have g3 := gr_old y o s hs yo py
  have g4 := gr_pos y s hs py ly
  have q1 := ge_zero (p := gr y s) (by omega)
  have q2 := le_pos (p := gr y s) (q := 4607182418800017408) (by omega) (by decide)
  rw [decide_eq_true g1] at q2
  have q3 := ge_zero (p := gr o s) (by omega)
  have q4 := le_pos (p := gr o s) (q := gr y s) (by omega) (by omega)
  rw [decide_eq_true g3] at q4
  have q6 := eq_zero' (p := gr y s) (by omega)
  have q5 := gt_zero' (p := gr y s) (by omega)
  rw [show decide (0 < gr y s) = wi y s by cases c : wi y s <;> simp [g4, c]] at q5 q6
  rw [ho] at O
  rw [hy] at Y q5 q6
  rw [hg] at G
  rw [hg2] at G'
  have le := le_gd hs ht hg hg2
  rw [decide_eq_true hl] at le
  rw [hp] at P
  clear q1 g1 g2 g3 g4 yo py ly ho hg hy hg2 hl hp
  generalize gr y s = gy at *
  generalize gr o s = go at *
  go_enter Try.func6, Try.ntmps6
  go_wp2_with fail
  refine A.mono ?_
  rintro e w' ⟨rfl, rfl⟩
  go_wp2_with fail
  refine O.mono ?_
  rintro e w' ⟨rfl, rfl⟩
  go_wp2_with fail
  refine G.mono ?_
  rintro e w' ⟨rfl, rfl⟩
  go_wp2_with fail
  refine G'.mono ?_
  rintro e w' ⟨rfl, rfl⟩
  go_wp2_with fail
  refine P.mono ?_
  rintro e w' ⟨rfl, rfl⟩
  go_wp2_with fail
  refine R.mono ?_
  rintro e w' ⟨rfl, rfl⟩
  go_wp2_with fail
  refine R'.mono ?_
  rintro e w' ⟨rfl, rfl⟩
  go_wp2_with fail
  refine Y.mono ?_
  rintro e w' ⟨rfl, rfl⟩
  go_wp2_with fail
  refine M.mono ?_
  rintro e w' ⟨rfl, rfl⟩
  clear A O Y G G' P Q R R' M
  go_wp2
  all_goals go_ret
  all_goals exact ⟨rfl, Below.refl _ _⟩
set_option maxHeartbeats 4000000 in
set_option maxRecDepth 20000 in
theorem go_fQ (a0 b0 : Int) (s t : Nat) (w : World) (hs : s < 18446744073709551616) (ht : t < 18446744073709551616) (a b : Int) (ea : (IntKind.u64.wrap a0).tmod 1099511627777 = a) (pa : 0 ≤ a) (la : a < 1099511627777) (eb : (IntKind.u64.wrap b0).tmod 1099511627777 = b) (pb : 0 ≤ b) (lb : b < 1099511627777)
    (y o : Int) (ey : (if b < a then b else a) = y) (eo : (if a < b then b else a) = o) (ho : wi o s = false) (hy : wi y s = false) (hg : gd s = true) (hg2 : gd t = true) (hl : rg s ≤ rg t) (hp : wi a s = true) :
    Calls Try.prog 6 #[.int .i64 a0, .int .i64 b0, .float .f64 s, .float .f64 t] w fun e w' => e = .returned (.bool true) ∧ Below w.heap.size w w' := by
  have A := awake_any w
  have O := within_any o s w hs
  have Y := within_any y s w hs
  have G := good_any s w hs
  have G' := good_any t w ht
  have P := within_any a s w hs
  have Q := within_any a t w ht
  have R := grade_any y s w hs
  have R' := grade_any o s w hs
  have M := within_any (-1 - a) s w hs
  rw [wi_neg (-1 - a) s (by omega)] at M
  have yo : y ≤ o := by rw [← ey, ← eo]; split <;> split <;> omega
  have py : 0 ≤ y := by rw [← ey]; split <;> omega
  have ly : y ≤ 1099511627776 := by rw [← ey]; split <;> omega
  have g1 := gr_le y s hs
  have g2 := gr_le o s hs
  have g3 := gr_old y o s hs yo py
  have g4 := gr_pos y s hs py ly
  have q1 := ge_zero (p := gr y s) (by omega)
  have q2 := le_pos (p := gr y s) (q := 4607182418800017408) (by omega) (by decide)
  rw [decide_eq_true g1] at q2
  have q3 := ge_zero (p := gr o s) (by omega)
  have q4 := le_pos (p := gr o s) (q := gr y s) (by omega) (by omega)
  rw [decide_eq_true g3] at q4
  have q6 := eq_zero' (p := gr y s) (by omega)
  have q5 := gt_zero' (p := gr y s) (by omega)
  rw [show decide (0 < gr y s) = wi y s by cases c : wi y s <;> simp [g4, c]] at q5 q6
  rw [ho] at O
  rw [hy] at Y q5 q6
  rw [hg] at G
  rw [hg2] at G'
  have le := le_gd hs ht hg hg2
  rw [decide_eq_true hl] at le
  rw [hp] at P
  have hq := wi_longer hg2 hl hp
  rw [hq] at Q
  clear q1 g1 g2 g3 g4 yo py ly ho hg hy hg2 hl hp hq
  generalize gr y s = gy at *
  generalize gr o s = go at *
  go_enter Try.func6, Try.ntmps6
  go_wp2_with fail
  refine A.mono ?_
  rintro e w' ⟨rfl, rfl⟩
  go_wp2_with fail
  refine O.mono ?_
  rintro e w' ⟨rfl, rfl⟩
  go_wp2_with fail
  refine G.mono ?_
  rintro e w' ⟨rfl, rfl⟩
  go_wp2_with fail
  refine G'.mono ?_
  rintro e w' ⟨rfl, rfl⟩
  go_wp2_with fail
  refine P.mono ?_
  rintro e w' ⟨rfl, rfl⟩
  go_wp2_with fail
  refine Q.mono ?_
  rintro e w' ⟨rfl, rfl⟩
  go_wp2_with fail
  refine R.mono ?_
  rintro e w' ⟨rfl, rfl⟩
  go_wp2_with fail
  refine R'.mono ?_
  rintro e w' ⟨rfl, rfl⟩
  go_wp2_with fail
  refine Y.mono ?_
  rintro e w' ⟨rfl, rfl⟩
  go_wp2_with fail
  refine M.mono ?_
  rintro e w' ⟨rfl, rfl⟩
  clear A O Y G G' P Q R R' M
  go_wp2
  all_goals go_ret
  all_goals exact ⟨rfl, Below.refl _ _⟩
theorem lt_of {a : Nat} (h : (Lit.float .f64 a).wf = true) : a < 18446744073709551616 := by
  simp only [Lit.wf, decide_eq_true_eq] at h
  exact h
theorem walk (a0 b0 : Int) (s t : Nat) (w0 : (Lit.int .i64 a0).wf = true) (w1 : (Lit.int .i64 b0).wf = true) (w2 : (Lit.float .f64 s).wf = true) (w3 : (Lit.float .f64 t).wf = true) (w : World) :
    Calls Try.prog 6 #[.int .i64 a0, .int .i64 b0, .float .f64 s, .float .f64 t] w fun e w' => e = .returned (.bool true) ∧ Below w.heap.size w w' := by
  obtain ⟨a, ea, pa, la⟩ := rem_u64 a0 1099511627777 (by decide)
  obtain ⟨b, eb, pb, lb⟩ := rem_u64 b0 1099511627777 (by decide)
  have hs := lt_of w2
  have ht := lt_of w3
  cases ho : wi (if a < b then b else a) s with
  | true =>
    have hg := (wi_true hs ho).2.1
    cases hg2 : gd t with
    | false => exact go_TT a0 b0 s t w hs ht a b ea pa la eb pb lb _ _ rfl rfl ho hg hg2
    | true =>
      by_cases hl : rg s ≤ rg t
      · cases hp : wi a s with
        | false => exact go_TP a0 b0 s t w hs ht a b ea pa la eb pb lb _ _ rfl rfl ho hg hg2 hl hp
        | true => exact go_TQ a0 b0 s t w hs ht a b ea pa la eb pb lb _ _ rfl rfl ho hg hg2 hl hp
      · exact go_TL a0 b0 s t w hs ht a b ea pa la eb pb lb _ _ rfl rfl ho hg hg2 hl
  | false =>
    cases hy : wi (if b < a then b else a) s with
    | true =>
      have hg := (wi_true hs hy).2.1
      cases hg2 : gd t with
      | false => exact go_tT a0 b0 s t w hs ht a b ea pa la eb pb lb _ _ rfl rfl ho hy hg hg2
      | true =>
        by_cases hl : rg s ≤ rg t
        · cases hp : wi a s with
          | false => exact go_tP a0 b0 s t w hs ht a b ea pa la eb pb lb _ _ rfl rfl ho hy hg hg2 hl hp
          | true => exact go_tQ a0 b0 s t w hs ht a b ea pa la eb pb lb _ _ rfl rfl ho hy hg hg2 hl hp
        · exact go_tL a0 b0 s t w hs ht a b ea pa la eb pb lb _ _ rfl rfl ho hy hg hg2 hl
    | false =>
      cases hg : gd s with
      | false => exact go_fS a0 b0 s t w hs ht a b ea pa la eb pb lb _ _ rfl rfl ho hy hg
      | true =>
        cases hg2 : gd t with
        | false => exact go_fT a0 b0 s t w hs ht a b ea pa la eb pb lb _ _ rfl rfl ho hy hg hg2
        | true =>
          by_cases hl : rg s ≤ rg t
          · cases hp : wi a s with
            | false => exact go_fP a0 b0 s t w hs ht a b ea pa la eb pb lb _ _ rfl rfl ho hy hg hg2 hl hp
            | true => exact go_fQ a0 b0 s t w hs ht a b ea pa la eb pb lb _ _ rfl rfl ho hy hg hg2 hl hp
          · exact go_fL a0 b0 s t w hs ht a b ea pa la eb pb lb _ _ rfl rfl ho hy hg hg2 hl

theorem own : ownKnob Try.prog.godebug = none := by kernel_rfl

set_option maxRecDepth 100000 in
theorem lifted (os : Os) (started : os.Started) (H : Type) (enc : TypeId × Value → H) :
    ReturnsInHanded {} Try.checked os 6 .any (Rows.termOlderSpec.pre6 enc Try.prog Try.f6 Rows.termOlderRow.domain false) (Rows.termOlderSpec.post enc Try.prog Try.f6 false true false false) := by
  refine returnsInHanded_of_change (C := Try.checked) own started (by kernel_rfl) Try.func6
    (ChangeSpec.witness6 (enc := enc) (C := Try.checked) false ⟨#[], #[.int .i64 0, .int .i64 0, .float .f64 0, .float .f64 0], []⟩ 8 (by kernel_rfl) (by kernel_rfl) (by kernel_rfl) (by kernel_rfl)) ?_
  intro W base args ds gs before hval0 hW hcnd _
  have hval : ∀ (j : Nat) t v, Try.f6.params[j]? = some t → args[j]? = some v → Value.okWide Try.prog W .any base t v := hval0
  have hW' := hW
  obtain ⟨p, q, hA0, hV, rfl, hfz, hnd⟩ := hW
  have hA : DataW.TrodAll enc Try.prog W 0 (fun _ => true) true Try.f6.params.toList args.toList ds p := hA0
  rw [Try.params6] at hA hval
  obtain ⟨v0, vs0, d0, ds0, p0, q0, hargs, rfl, rfl, h0, r0⟩ := trodAll_cons hA
  obtain ⟨v1, vs1, d1, ds1, p1, q1, rfl, rfl, rfl, h1, r1⟩ := trodAll_cons r0
  obtain ⟨v2, vs2, d2, ds2, p2, q2, rfl, rfl, rfl, h2, r2⟩ := trodAll_cons r1
  obtain ⟨v3, vs3, d3, ds3, p3, q3, rfl, rfl, rfl, h3, r3⟩ := trodAll_cons r2
  obtain ⟨rfl, rfl, rfl⟩ := trodAll_nil r3
  obtain rfl : args = #[v0, v1, v2, v3] := by cases args; simp_all
  obtain ⟨rfl, rfl⟩ := trodVars_none hV
  obtain ⟨a0, rfl, rfl, rfl, w0⟩ := open_int Try.underlying3 (hval 0 3 v0 rfl rfl) h0
  obtain ⟨a1, rfl, rfl, rfl, w1⟩ := open_int Try.underlying3 (hval 1 3 v1 rfl rfl) h1
  obtain ⟨a2, rfl, rfl, rfl, w2⟩ := open_float Try.underlying22 (hval 2 22 v2 rfl rfl) h2
  obtain ⟨a3, rfl, rfl, rfl, w3⟩ := open_float Try.underlying22 (hval 3 22 v3 rfl rfl) h3
  clear hA0 hval0
  simp only [List.append_nil] at hW'
  refine (walk a0 a1 a2 a3 w0 w1 w2 w3 W).mono fun e W' ⟨he, bel⟩ => ?_
  subst he
  exact ⟨_, rfl, _, _, _, [], _, [], hW', trodAll_mk1 (shut_bool Try.underlying4 _), (trodAll_cons_mk (shut_int Try.underlying3 w0) (trodAll_cons_mk (shut_int Try.underlying3 w1) (trodAll_cons_mk (shut_float Try.underlying22 w2) (trodAll_cons_mk (shut_float Try.underlying22 w3) trodAll_mk0)))), rfl, bel.frame _, fun h => by cases h⟩

theorem over : Rows.termOlderRow.holds Try.pinned (OpenSpec.ofChange Rows.termOlderSpec) :=
  OpenClaim.holds_of_wide 6 Try.f6 rfl rfl rfl rfl rfl rfl rfl ⟨rfl, rfl, rfl, rfl, rfl⟩ rfl rfl rfl rfl rfl (by kernel_rfl) Try.func6 (by kernel_rfl)
    (of_decide_eq_true (by kernel_rfl)) (by unfold Func.isWrapper; first | (rw [if_pos (by decide +kernel)]; kernel_rfl) | (rw [if_neg (by decide +kernel)]; exact ⟨rfl, rfl⟩))
    (fun os started H enc _ => lifted os started H enc)

theorem proved : Rows.TermOlderSaid :=
  over
#print axioms proved
end Go.Proofs.Ythocpkmlfkbiaaa.termOlder
