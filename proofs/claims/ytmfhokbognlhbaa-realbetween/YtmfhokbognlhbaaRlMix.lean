/-
  Contracts of real.Clamp, mancipleref05.Clamp, real.Mix and mancipleref05.Mix: what each answers for every numbers, all bits.
-/
import Derived.Test.YtmfhokbognlhbaaRlAwake
namespace Go.Proofs.Ytmfhokbognlhbaa.Rl
open Go.RowKit
set_option linter.unusedVariables false
set_option linter.unusedSimpArgs false

theorem isN_cls (x : Nat) (hx : x < 18446744073709551616) : isN x = decide (cls (place x) = 1) := by
  have := cls_of _ (place_range x hx)
  unfold isN
  congr 1; apply propext; omega
/-- the number between two bounds that is nearest -/
def clamp (x lo hi : Nat) : Nat := if isN x || isN lo || isN hi || lt hi lo then 9221120237041090560 else if lt x lo then lo else if lt hi x then hi else x

theorem clamp_any (x lo hi : Nat) (w : World) (hx : x < 18446744073709551616) (hl : lo < 18446744073709551616) (hh : hi < 18446744073709551616) :
    Calls Try.prog 18 #[.float .f64 x, .float .f64 lo, .float .f64 hi] w fun e w' => e = .returned (.float .f64 (clamp x lo hi)) ∧ w = w' := by
  have Ix := isNaN_any x w hx
  have Il := isNaN_any lo w hl
  have Ih := isNaN_any hi w hh
  have Lhl := less_any hi lo w hh hl
  have Lxl := less_any x lo w hx hl
  have Lhx := less_any hi x w hh hx
  have N := nan_any w
  unfold clamp
  cases c0 : isN x with
  | true =>
    rw [c0] at Ix
    clear c0
    go_enter Try.func18, Try.ntmps18
    go_wp2_with fail
    refine Ix.mono ?_
    rintro e w' ⟨rfl, rfl⟩
    go_wp2_with fail
    refine N.mono ?_
    rintro e w' ⟨rfl, rfl⟩
    clear Ix Il Ih Lhl Lxl Lhx N
    go_wp2
    all_goals go_ret
    all_goals exact ⟨rfl, rfl⟩
  | false =>
  rw [c0] at Ix
  clear c0
  cases c1 : isN lo with
  | true =>
    rw [c1] at Il
    clear c1
    go_enter Try.func18, Try.ntmps18
    go_wp2_with fail
    refine Ix.mono ?_
    rintro e w' ⟨rfl, rfl⟩
    go_wp2_with fail
    refine Il.mono ?_
    rintro e w' ⟨rfl, rfl⟩
    go_wp2_with fail
    refine N.mono ?_
    rintro e w' ⟨rfl, rfl⟩
    clear Ix Il Ih Lhl Lxl Lhx N
    go_wp2
    all_goals go_ret
    all_goals exact ⟨rfl, rfl⟩
  | false =>
  rw [c1] at Il
  clear c1
  cases c2 : isN hi with
  | true =>
    rw [c2] at Ih
    clear c2
    go_enter Try.func18, Try.ntmps18
    go_wp2_with fail
    refine Ix.mono ?_
    rintro e w' ⟨rfl, rfl⟩
    go_wp2_with fail
    refine Il.mono ?_
    rintro e w' ⟨rfl, rfl⟩
    go_wp2_with fail
    refine Ih.mono ?_
    rintro e w' ⟨rfl, rfl⟩
    go_wp2_with fail
    refine N.mono ?_
    rintro e w' ⟨rfl, rfl⟩
    clear Ix Il Ih Lhl Lxl Lhx N
    go_wp2
    all_goals go_ret
    all_goals exact ⟨rfl, rfl⟩
  | false =>
  rw [c2] at Ih
  clear c2
  cases c3 : lt hi lo with
  | true =>
    rw [c3] at Lhl
    clear c3
    go_enter Try.func18, Try.ntmps18
    go_wp2_with fail
    refine Ix.mono ?_
    rintro e w' ⟨rfl, rfl⟩
    go_wp2_with fail
    refine Il.mono ?_
    rintro e w' ⟨rfl, rfl⟩
    go_wp2_with fail
    refine Ih.mono ?_
    rintro e w' ⟨rfl, rfl⟩
    go_wp2_with fail
    refine Lhl.mono ?_
    rintro e w' ⟨rfl, rfl⟩
    go_wp2_with fail
    refine N.mono ?_
    rintro e w' ⟨rfl, rfl⟩
    clear Ix Il Ih Lhl Lxl Lhx N
    go_wp2
    all_goals go_ret
    all_goals exact ⟨rfl, rfl⟩
  | false =>
  rw [c3] at Lhl
  clear c3
  cases c4 : lt x lo with
  | true =>
    rw [c4] at Lxl
    clear c4
    go_enter Try.func18, Try.ntmps18
    go_wp2_with fail
    refine Ix.mono ?_
    rintro e w' ⟨rfl, rfl⟩
    go_wp2_with fail
    refine Il.mono ?_
    rintro e w' ⟨rfl, rfl⟩
    go_wp2_with fail
    refine Ih.mono ?_
    rintro e w' ⟨rfl, rfl⟩
    go_wp2_with fail
    refine Lhl.mono ?_
    rintro e w' ⟨rfl, rfl⟩
    go_wp2_with fail
    refine Lxl.mono ?_
    rintro e w' ⟨rfl, rfl⟩
    clear Ix Il Ih Lhl Lxl Lhx N
    go_wp2
    all_goals go_ret
    all_goals exact ⟨rfl, rfl⟩
  | false =>
  rw [c4] at Lxl
  clear c4
  cases c5 : lt hi x with
  | true =>
    rw [c5] at Lhx
    clear c5
    go_enter Try.func18, Try.ntmps18
    go_wp2_with fail
    refine Ix.mono ?_
    rintro e w' ⟨rfl, rfl⟩
    go_wp2_with fail
    refine Il.mono ?_
    rintro e w' ⟨rfl, rfl⟩
    go_wp2_with fail
    refine Ih.mono ?_
    rintro e w' ⟨rfl, rfl⟩
    go_wp2_with fail
    refine Lhl.mono ?_
    rintro e w' ⟨rfl, rfl⟩
    go_wp2_with fail
    refine Lxl.mono ?_
    rintro e w' ⟨rfl, rfl⟩
    go_wp2_with fail
    refine Lhx.mono ?_
    rintro e w' ⟨rfl, rfl⟩
    clear Ix Il Ih Lhl Lxl Lhx N
    go_wp2
    all_goals go_ret
    all_goals exact ⟨rfl, rfl⟩
  | false =>
  rw [c5] at Lhx
  clear c5
  go_enter Try.func18, Try.ntmps18
  go_wp2_with fail
  refine Ix.mono ?_
  rintro e w' ⟨rfl, rfl⟩
  go_wp2_with fail
  refine Il.mono ?_
  rintro e w' ⟨rfl, rfl⟩
  go_wp2_with fail
  refine Ih.mono ?_
  rintro e w' ⟨rfl, rfl⟩
  go_wp2_with fail
  refine Lhl.mono ?_
  rintro e w' ⟨rfl, rfl⟩
  go_wp2_with fail
  refine Lxl.mono ?_
  rintro e w' ⟨rfl, rfl⟩
  go_wp2_with fail
  refine Lhx.mono ?_
  rintro e w' ⟨rfl, rfl⟩
  clear Ix Il Ih Lhl Lxl Lhx N
  go_wp2
  all_goals go_ret
  all_goals exact ⟨rfl, rfl⟩

/-- a class, as the walk must see it: 1, or a number that isn't 1 -/
theorem refnan (x : Nat) (w : World) (hx : x < 18446744073709551616) : (isN x = true ∧ Calls Try.prog 11 #[.float .f64 x] w fun e w' => e = .returned (.int .i64 1) ∧ w = w') ∨
    (isN x = false ∧ ∃ k : Int, (k == 1) = false ∧ Calls Try.prog 11 #[.float .f64 x] w fun e w' => e = .returned (.int .i64 k) ∧ w = w') := by
  have c := refclass_any x w hx
  rw [isN_cls x hx]
  by_cases h : cls (place x) = 1
  · rw [h] at c
    exact .inl ⟨decide_eq_true h, c⟩
  · exact .inr ⟨decide_eq_false h, _, beq_eq_false_iff_ne.2 h, c⟩
theorem refclamp_any (x lo hi : Nat) (w : World) (hx : x < 18446744073709551616) (hl : lo < 18446744073709551616) (hh : hi < 18446744073709551616) :
    Calls Try.prog 19 #[.float .f64 x, .float .f64 lo, .float .f64 hi] w fun e w' => e = .returned (.float .f64 (clamp x lo hi)) ∧ w = w' := by
  have Lhl := refless_any hi lo w hh hl
  have Lxl := refless_any x lo w hx hl
  have Lhx := refless_any hi x w hh hx
  have N := refnan_any w
  unfold clamp
  rcases refnan x w hx with ⟨c0, Ix⟩ | ⟨c0, k0, b0, Ix⟩
  · rw [c0]
    clear c0
    go_enter Try.func19, Try.ntmps19
    go_wp2_with fail
    refine Ix.mono ?_
    rintro e w' ⟨rfl, rfl⟩
    go_wp2_with fail
    refine N.mono ?_
    rintro e w' ⟨rfl, rfl⟩
    clear Lhl Lxl Lhx N
    go_wp2
    all_goals go_ret
    all_goals exact ⟨rfl, rfl⟩
  rw [c0]
  clear c0
  rcases refnan lo w hl with ⟨c1, Il⟩ | ⟨c1, k1, b1, Il⟩
  · rw [c1]
    clear c1
    simp only [Bool.or_true, Bool.true_or, if_true]
    go_enter Try.func19, Try.ntmps19
    go_wp2_with fail
    refine Ix.mono ?_
    rintro e w' ⟨rfl, rfl⟩
    go_wp2_with fail
    refine Il.mono ?_
    rintro e w' ⟨rfl, rfl⟩
    go_wp2_with fail
    refine N.mono ?_
    rintro e w' ⟨rfl, rfl⟩
    clear Lhl Lxl Lhx N
    go_wp2
    all_goals go_ret
    all_goals exact ⟨rfl, rfl⟩
  rw [c1]
  clear c1
  rcases refnan hi w hh with ⟨c2, Ih⟩ | ⟨c2, k2, b2, Ih⟩
  · rw [c2]
    clear c2
    simp only [Bool.or_true, Bool.true_or, if_true]
    go_enter Try.func19, Try.ntmps19
    go_wp2_with fail
    refine Ix.mono ?_
    rintro e w' ⟨rfl, rfl⟩
    go_wp2_with fail
    refine Il.mono ?_
    rintro e w' ⟨rfl, rfl⟩
    go_wp2_with fail
    refine Ih.mono ?_
    rintro e w' ⟨rfl, rfl⟩
    go_wp2_with fail
    refine N.mono ?_
    rintro e w' ⟨rfl, rfl⟩
    clear Lhl Lxl Lhx N
    go_wp2
    all_goals go_ret
    all_goals exact ⟨rfl, rfl⟩
  rw [c2]
  clear c2
  cases c3 : lt hi lo with
  | true =>
    rw [c3] at Lhl
    clear c3
    go_enter Try.func19, Try.ntmps19
    go_wp2_with fail
    refine Ix.mono ?_
    rintro e w' ⟨rfl, rfl⟩
    go_wp2_with fail
    refine Il.mono ?_
    rintro e w' ⟨rfl, rfl⟩
    go_wp2_with fail
    refine Ih.mono ?_
    rintro e w' ⟨rfl, rfl⟩
    go_wp2_with fail
    refine Lhl.mono ?_
    rintro e w' ⟨rfl, rfl⟩
    go_wp2_with fail
    refine N.mono ?_
    rintro e w' ⟨rfl, rfl⟩
    clear Ix Il Ih Lhl Lxl Lhx N
    go_wp2
    all_goals go_ret
    all_goals exact ⟨rfl, rfl⟩
  | false =>
  rw [c3] at Lhl
  clear c3
  cases c4 : lt x lo with
  | true =>
    rw [c4] at Lxl
    clear c4
    go_enter Try.func19, Try.ntmps19
    go_wp2_with fail
    refine Ix.mono ?_
    rintro e w' ⟨rfl, rfl⟩
    go_wp2_with fail
    refine Il.mono ?_
    rintro e w' ⟨rfl, rfl⟩
    go_wp2_with fail
    refine Ih.mono ?_
    rintro e w' ⟨rfl, rfl⟩
    go_wp2_with fail
    refine Lhl.mono ?_
    rintro e w' ⟨rfl, rfl⟩
    go_wp2_with fail
    refine Lxl.mono ?_
    rintro e w' ⟨rfl, rfl⟩
    clear Ix Il Ih Lhl Lxl Lhx N
    go_wp2
    all_goals go_ret
    all_goals exact ⟨rfl, rfl⟩
  | false =>
  rw [c4] at Lxl
  clear c4
  cases c5 : lt hi x with
  | true =>
    rw [c5] at Lhx
    clear c5
    go_enter Try.func19, Try.ntmps19
    go_wp2_with fail
    refine Ix.mono ?_
    rintro e w' ⟨rfl, rfl⟩
    go_wp2_with fail
    refine Il.mono ?_
    rintro e w' ⟨rfl, rfl⟩
    go_wp2_with fail
    refine Ih.mono ?_
    rintro e w' ⟨rfl, rfl⟩
    go_wp2_with fail
    refine Lhl.mono ?_
    rintro e w' ⟨rfl, rfl⟩
    go_wp2_with fail
    refine Lxl.mono ?_
    rintro e w' ⟨rfl, rfl⟩
    go_wp2_with fail
    refine Lhx.mono ?_
    rintro e w' ⟨rfl, rfl⟩
    clear Ix Il Ih Lhl Lxl Lhx N
    go_wp2
    all_goals go_ret
    all_goals exact ⟨rfl, rfl⟩
  | false =>
  rw [c5] at Lhx
  clear c5
  go_enter Try.func19, Try.ntmps19
  go_wp2_with fail
  refine Ix.mono ?_
  rintro e w' ⟨rfl, rfl⟩
  go_wp2_with fail
  refine Il.mono ?_
  rintro e w' ⟨rfl, rfl⟩
  go_wp2_with fail
  refine Ih.mono ?_
  rintro e w' ⟨rfl, rfl⟩
  go_wp2_with fail
  refine Lhl.mono ?_
  rintro e w' ⟨rfl, rfl⟩
  go_wp2_with fail
  refine Lxl.mono ?_
  rintro e w' ⟨rfl, rfl⟩
  go_wp2_with fail
  refine Lhx.mono ?_
  rintro e w' ⟨rfl, rfl⟩
  clear Ix Il Ih Lhl Lxl Lhx N
  go_wp2
  all_goals go_ret
  all_goals exact ⟨rfl, rfl⟩

-- the operations: rounded where they are valid, else some NaN
theorem isN_rg (x : Nat) (hx : x < 18446744073709551616) (h : isN x = true) : 9218868437227405312 < rg x := by
  have r := rg_lt x
  unfold isN place at h
  simp only [decide_eq_true_eq] at h
  (repeat' split at h) <;> omega
theorem isN_of (x : Nat) (h : 9218868437227405312 < rg x) : isN x = true := by
  unfold isN place; rw [if_pos h]; rfl
theorem nan_right (op : BinOp) (x y : Nat) (hy : y < 18446744073709551616) (h : isN y = true) : floatBits op .f64 x y = none := by
  obtain ⟨f, hf⟩ := read_nan y hy (isN_rg y hy h)
  unfold floatBits
  cases op <;> try rfl
  · show ((Ieee.double.read x).sum (Ieee.double.read y)).map _ = none
    rw [hf]; cases Ieee.double.read x <;> rfl
  · show ((Ieee.double.read x).sum (Ieee.double.read y).opposite).map _ = none
    rw [hf]; cases Ieee.double.read x <;> rfl
  · show ((Ieee.double.read x).product (Ieee.double.read y)).map _ = none
    rw [hf]; cases Ieee.double.read x <;> rfl
  · show ((Ieee.double.read x).quotient _ (Ieee.double.read y)).map _ = none
    rw [hf]; cases Ieee.double.read x <;> rfl
theorem bits_lt {op : BinOp} {x y r : Nat} (h : floatBits op .f64 x y = some r) : r < 18446744073709551616 := by
  have := floatBits_wf h
  simp only [Lit.wf, decide_eq_true_eq] at this
  exact this
theorem cut_nan (x y t : Nat) : isN ((Question.nanBits .f64 x y).cut t) = true ∧ (Question.nanBits .f64 x y).cut t < 18446744073709551616 := by
  have e : (Question.nanBits .f64 x y).cut t = (t % 2) * 9223372036854775808 + 9218868437227405312 + 1 + (t / 2) % 4503599627370495 := by
    unfold Question.cut; rfl
  rw [e]
  have hu : (t / 2) % 4503599627370495 < 4503599627370495 := Nat.mod_lt _ (by decide)
  have hv : t % 2 = 0 ∨ t % 2 = 1 := by omega
  generalize (t / 2) % 4503599627370495 = u at *
  generalize t % 2 = v at *
  rcases hv with rfl | rfl
  · exact ⟨isN_of _ (by unfold rg; omega), by omega⟩
  · exact ⟨isN_of _ (by unfold rg; omega), by omega⟩
/-- one operation, as the walk must see it -/
def Does (op : BinOp) (x y : Nat) (w : World) (r : Nat) (w' : World) : Prop := (∀ t, (binOp op t (.float .f64 x) (.float .f64 y)).run Try.prog w = .ok (.float .f64 r) w') ∧ r < 18446744073709551616 ∧ Below w.heap.size w w'
theorem does_some {op : BinOp} {x y r : Nat} (w : World) (h : floatBits op .f64 x y = some r) : Does op x y w r w :=
  ⟨fun t => run_float_arith w op t .f64 x y r h, bits_lt h, Below.refl _ _⟩
theorem does_none (op : BinOp) (x y : Nat) (w : World) (ho : op = .add ∨ op = .sub ∨ op = .mul) (h : floatBits op .f64 x y = none) : ∃ r w', Does op x y w r w' ∧ isN r = true := by
  obtain ⟨c1, c2⟩ := cut_nan x y (w.tape w.drawn (.nanBits .f64 x y))
  refine ⟨(Question.nanBits .f64 x y).cut (w.tape w.drawn (.nanBits .f64 x y)), w.drew, ⟨?_, c2, (Below.refl _ _).drew⟩, c1⟩
  intro t
  unfold floatBits at h
  rcases ho with rfl | rfl | rfl <;> simp only at h <;> simp [binOp, Op.floatArith, h, Question.forced]

/-- the mean that goes on, where all three are numbers -/
def mixv (mean x wt : Nat) : Nat := match floatBits .sub .f64 x mean with
  | none => 9221120237041090560
  | some d => match floatBits .mul .f64 wt d with
    | none => 9221120237041090560
    | some p => match floatBits .add .f64 mean p with
      | none => 9221120237041090560
      | some s => cl s
theorem cl_nan (x : Nat) (hx : x < 18446744073709551616) (h : isN x = true) : cl x = 9221120237041090560 := by
  rw [isN_cls x hx] at h
  unfold cl; rw [if_pos (of_decide_eq_true h)]
theorem does_all (mean x wt : Nat) (w : World) : ∃ r1 w1 r2 w2 r3 w3, Does .sub x mean w r1 w1 ∧ Does .mul wt r1 w1 r2 w2 ∧ Does .add mean r2 w2 r3 w3 ∧ cl r3 = mixv mean x wt := by
  unfold mixv
  have third : ∀ (r2 : Nat) (w2 : World), r2 < 18446744073709551616 → isN r2 = true → ∃ r3 w3, Does .add mean r2 w2 r3 w3 ∧ cl r3 = 9221120237041090560 := by
    intro r2 w2 hl hn
    obtain ⟨r3, w3, d, n⟩ := does_none .add mean r2 w2 (.inl rfl) (nan_right _ _ _ hl hn)
    exact ⟨r3, w3, d, cl_nan _ d.2.1 n⟩
  cases h1 : floatBits .sub .f64 x mean with
  | none =>
    obtain ⟨r1, w1, d1, n1⟩ := does_none .sub x mean w (.inr (.inl rfl)) h1
    obtain ⟨r2, w2, d2, n2⟩ := does_none .mul wt r1 w1 (.inr (.inr rfl)) (nan_right _ _ _ d1.2.1 n1)
    obtain ⟨r3, w3, d3, n3⟩ := third r2 w2 d2.2.1 n2
    exact ⟨r1, w1, r2, w2, r3, w3, d1, d2, d3, n3⟩
  | some d =>
    dsimp only
    cases h2 : floatBits .mul .f64 wt d with
    | none =>
      obtain ⟨r2, w2, d2, n2⟩ := does_none .mul wt d w (.inr (.inr rfl)) h2
      obtain ⟨r3, w3, d3, n3⟩ := third r2 w2 d2.2.1 n2
      exact ⟨d, w, r2, w2, r3, w3, does_some w h1, d2, d3, n3⟩
    | some p =>
      dsimp only
      cases h3 : floatBits .add .f64 mean p with
      | none =>
        obtain ⟨r3, w3, d3, n3⟩ := does_none .add mean p w (.inl rfl) h3
        exact ⟨d, w, p, w, r3, w3, does_some w h1, does_some w h2, d3, cl_nan _ d3.2.1 n3⟩
      | some s => exact ⟨d, w, p, w, s, w, does_some w h1, does_some w h2, does_some w h3, rfl⟩

/-- a weight that is none -/
def wbad (wt : Nat) : Bool := isN wt || (FloatKind.f64.format.order wt 0 == some .lt) || (FloatKind.f64.format.order wt 4607182418800017408 == some .gt)
def mixR (mean x wt : Nat) : Nat := if wbad wt then 9221120237041090560 else if isN mean then cl x else if isN x then cl mean else mixv mean x wt

set_option maxHeartbeats 800000 in
theorem mix_any (mean x wt : Nat) (w : World) (hm : mean < 18446744073709551616) (hx : x < 18446744073709551616) (hw : wt < 18446744073709551616) :
    Calls Try.prog 20 #[.float .f64 mean, .float .f64 x, .float .f64 wt] w fun e w' => e = .returned (.float .f64 (mixR mean x wt)) ∧ Below w.heap.size w w' := by
  have Iw := isNaN_any wt w hw
  have Im := isNaN_any mean w hm
  have Ix := isNaN_any x w hx
  have Cx := clean_any x w hx
  have Cm := clean_any mean w hm
  have N := nan_any w
  unfold mixR wbad
  cases c0 : isN wt with
  | true =>
    rw [c0] at Iw
    clear c0
    simp only [Bool.or_true, Bool.true_or, Bool.false_or, Bool.or_false, if_true, Bool.false_eq_true, if_false]
    go_enter Try.func20, Try.ntmps20
    go_wp2_with fail
    refine Iw.mono ?_
    rintro e w' ⟨rfl, rfl⟩
    go_wp2_with fail
    refine N.mono ?_
    rintro e w' ⟨rfl, rfl⟩
    clear Iw Im Ix Cx Cm N
    go_wp2
    all_goals go_ret
    all_goals exact ⟨rfl, Below.refl _ _⟩
  | false =>
  rw [c0] at Iw
  clear c0
  cases c1 : (FloatKind.f64.format.order wt 0 == some .lt) with
  | true =>
    simp only [Bool.or_true, Bool.true_or, Bool.false_or, Bool.or_false, if_true, Bool.false_eq_true, if_false]
    go_enter Try.func20, Try.ntmps20
    go_wp2_with fail
    refine Iw.mono ?_
    rintro e w' ⟨rfl, rfl⟩
    go_wp2_with fail
    refine N.mono ?_
    rintro e w' ⟨rfl, rfl⟩
    clear Iw Im Ix Cx Cm N
    go_wp2
    all_goals go_ret
    all_goals exact ⟨rfl, Below.refl _ _⟩
  | false =>
  cases c2 : (FloatKind.f64.format.order wt 4607182418800017408 == some .gt) with
  | true =>
    simp only [Bool.or_true, Bool.true_or, Bool.false_or, Bool.or_false, if_true, Bool.false_eq_true, if_false]
    go_enter Try.func20, Try.ntmps20
    go_wp2_with fail
    refine Iw.mono ?_
    rintro e w' ⟨rfl, rfl⟩
    go_wp2_with fail
    refine N.mono ?_
    rintro e w' ⟨rfl, rfl⟩
    clear Iw Im Ix Cx Cm N
    go_wp2
    all_goals go_ret
    all_goals exact ⟨rfl, Below.refl _ _⟩
  | false =>
  cases c3 : isN mean with
  | true =>
    rw [c3] at Im
    clear c3
    simp only [Bool.or_true, Bool.true_or, Bool.false_or, Bool.or_false, if_true, Bool.false_eq_true, if_false]
    go_enter Try.func20, Try.ntmps20
    go_wp2_with fail
    refine Iw.mono ?_
    rintro e w' ⟨rfl, rfl⟩
    go_wp2_with fail
    refine Im.mono ?_
    rintro e w' ⟨rfl, rfl⟩
    go_wp2_with fail
    refine Cx.mono ?_
    rintro e w' ⟨rfl, rfl⟩
    clear Iw Im Ix Cx Cm N
    go_wp2
    all_goals go_ret
    all_goals exact ⟨rfl, Below.refl _ _⟩
  | false =>
  rw [c3] at Im
  clear c3
  cases c4 : isN x with
  | true =>
    rw [c4] at Ix
    clear c4
    simp only [Bool.or_true, Bool.true_or, Bool.false_or, Bool.or_false, if_true, Bool.false_eq_true, if_false]
    go_enter Try.func20, Try.ntmps20
    go_wp2_with fail
    refine Iw.mono ?_
    rintro e w' ⟨rfl, rfl⟩
    go_wp2_with fail
    refine Im.mono ?_
    rintro e w' ⟨rfl, rfl⟩
    go_wp2_with fail
    refine Ix.mono ?_
    rintro e w' ⟨rfl, rfl⟩
    go_wp2_with fail
    refine Cm.mono ?_
    rintro e w' ⟨rfl, rfl⟩
    clear Iw Im Ix Cx Cm N
    go_wp2
    all_goals go_ret
    all_goals exact ⟨rfl, Below.refl _ _⟩
  | false =>
  rw [c4] at Ix
  clear c4
  simp only [Bool.or_true, Bool.true_or, Bool.false_or, Bool.or_false, if_true, Bool.false_eq_true, if_false]
  obtain ⟨r1, w1, r2, w2, r3, w3, ⟨h1, l1, b1⟩, ⟨h2, l2, b2⟩, ⟨h3, l3, b3⟩, hv⟩ := does_all mean x wt w
  rw [← hv]
  clear hv
  have C := clean_any r3 w3 l3
  have B := b1.trans ((b2.mono b1.size).trans (b3.mono (Nat.le_trans b1.size b2.size)))
  clear b1 b2 b3 l1 l2 l3
  go_enter Try.func20, Try.ntmps20
  go_wp2_with fail
  refine Iw.mono ?_
  rintro e w' ⟨rfl, rfl⟩
  go_wp2_with fail
  refine Im.mono ?_
  rintro e w' ⟨rfl, rfl⟩
  go_wp2_with fail
  refine Ix.mono ?_
  rintro e w' ⟨rfl, rfl⟩
  clear Iw Im Ix Cx Cm N
  go_wp2_with (simp only [h1, h2, h3])
  refine C.mono ?_
  rintro e w' ⟨rfl, rfl⟩
  clear C
  go_wp2
  all_goals go_ret
  all_goals exact ⟨rfl, B⟩

theorem wbad_ref (wt : Nat) (hw : wt < 18446744073709551616) : wbad wt = (decide (cls (place wt) < 4) || lt 4607182418800017408 wt) := by
  have c := cls_of _ (place_range wt hw)
  unfold wbad lt isN
  rw [lt_zero wt hw, ord_gt wt _ hw (by decide), show kp (place 4607182418800017408) = 4607182418800017408 by decide, show place 4607182418800017408 = 4607182418800017408 by decide]
  generalize place wt = p at *
  by_cases h1 : p = -9223372036854775808
  · rw [decide_eq_true h1, decide_eq_true (by omega : cls p < 4)]; rfl
  · rw [decide_eq_false h1]
    by_cases h2 : p < -1
    · rw [decide_eq_true (show p ≠ -9223372036854775808 ∧ p < -1 from ⟨h1, h2⟩), decide_eq_true (by omega : cls p < 4)]; rfl
    · rw [decide_eq_false (show ¬ (p ≠ -9223372036854775808 ∧ p < -1) by omega), decide_eq_false (by omega : ¬ cls p < 4)]
      rw [Bool.false_or, Bool.false_or, Bool.false_or]
      congr 1; apply propext; unfold kp
      split <;> omega
set_option maxHeartbeats 800000 in
theorem refmix_any (mean x wt : Nat) (w : World) (hm : mean < 18446744073709551616) (hx : x < 18446744073709551616) (hw : wt < 18446744073709551616) :
    Calls Try.prog 21 #[.float .f64 mean, .float .f64 x, .float .f64 wt] w fun e w' => e = .returned (.float .f64 (mixR mean x wt)) ∧ Below w.heap.size w w' := by
  have Kw := refclass_any wt w hw
  have Lw := refless_any 4607182418800017408 wt w (by decide) hw
  have Cx := refclean_any x w hx
  have Cm := refclean_any mean w hm
  have N := refnan_any w
  unfold mixR
  rw [wbad_ref wt hw]
  generalize cls (place wt) = k at *
  by_cases c0 : k < 4
  · rw [decide_eq_true c0, Bool.true_or, if_pos rfl]
    go_enter Try.func21, Try.ntmps21
    go_wp2_with fail
    refine Kw.mono ?_
    rintro e w' ⟨rfl, rfl⟩
    go_wp2_with fail
    refine N.mono ?_
    rintro e w' ⟨rfl, rfl⟩
    clear Kw Lw Cx Cm N
    go_wp2
    all_goals go_ret
    all_goals exact ⟨rfl, Below.refl _ _⟩
  rw [decide_eq_false c0, Bool.false_or]
  cases c1 : lt 4607182418800017408 wt with
  | true =>
    rw [c1] at Lw
    clear c1
    go_enter Try.func21, Try.ntmps21
    go_wp2_with fail
    refine Kw.mono ?_
    rintro e w' ⟨rfl, rfl⟩
    go_wp2_with fail
    refine Lw.mono ?_
    rintro e w' ⟨rfl, rfl⟩
    go_wp2_with fail
    refine N.mono ?_
    rintro e w' ⟨rfl, rfl⟩
    clear Kw Lw Cx Cm N
    go_wp2
    all_goals go_ret
    all_goals exact ⟨rfl, Below.refl _ _⟩
  | false =>
  rw [c1] at Lw
  clear c1
  rw [if_neg (by simp)]
  rcases refnan mean w hm with ⟨c2, Im⟩ | ⟨c2, k2, b2, Im⟩
  · rw [c2, if_pos rfl]
    clear c2
    go_enter Try.func21, Try.ntmps21
    go_wp2_with fail
    refine Kw.mono ?_
    rintro e w' ⟨rfl, rfl⟩
    go_wp2_with fail
    refine Lw.mono ?_
    rintro e w' ⟨rfl, rfl⟩
    go_wp2_with fail
    refine Im.mono ?_
    rintro e w' ⟨rfl, rfl⟩
    go_wp2_with fail
    refine Cx.mono ?_
    rintro e w' ⟨rfl, rfl⟩
    clear Kw Lw Cx Cm N
    go_wp2
    all_goals go_ret
    all_goals exact ⟨rfl, Below.refl _ _⟩
  rw [c2, if_neg (by simp)]
  clear c2
  rcases refnan x w hx with ⟨c3, Ix⟩ | ⟨c3, k3, b3, Ix⟩
  · rw [c3, if_pos rfl]
    clear c3
    go_enter Try.func21, Try.ntmps21
    go_wp2_with fail
    refine Kw.mono ?_
    rintro e w' ⟨rfl, rfl⟩
    go_wp2_with fail
    refine Lw.mono ?_
    rintro e w' ⟨rfl, rfl⟩
    go_wp2_with fail
    refine Im.mono ?_
    rintro e w' ⟨rfl, rfl⟩
    go_wp2_with fail
    refine Ix.mono ?_
    rintro e w' ⟨rfl, rfl⟩
    go_wp2_with fail
    refine Cm.mono ?_
    rintro e w' ⟨rfl, rfl⟩
    clear Kw Lw Cx Cm N
    go_wp2
    all_goals go_ret
    all_goals exact ⟨rfl, Below.refl _ _⟩
  rw [c3, if_neg (by simp)]
  clear c3
  obtain ⟨r1, w1, r2, w2, r3, w3, ⟨h1, l1, d1⟩, ⟨h2, l2, d2⟩, ⟨h3, l3, d3⟩, hv⟩ := does_all mean x wt w
  rw [← hv]
  clear hv
  have C := refclean_any r3 w3 l3
  have B := d1.trans ((d2.mono d1.size).trans (d3.mono (Nat.le_trans d1.size d2.size)))
  clear d1 d2 d3 l1 l2 l3
  go_enter Try.func21, Try.ntmps21
  go_wp2_with fail
  refine Kw.mono ?_
  rintro e w' ⟨rfl, rfl⟩
  go_wp2_with fail
  refine Lw.mono ?_
  rintro e w' ⟨rfl, rfl⟩
  go_wp2_with fail
  refine Im.mono ?_
  rintro e w' ⟨rfl, rfl⟩
  go_wp2_with fail
  refine Ix.mono ?_
  rintro e w' ⟨rfl, rfl⟩
  clear Kw Lw Im Ix Cx Cm N
  go_wp2_with (simp only [h1, h2, h3])
  refine C.mono ?_
  rintro e w' ⟨rfl, rfl⟩
  clear C
  go_wp2
  all_goals go_ret
  all_goals exact ⟨rfl, B⟩
theorem clamp_lt (x lo hi : Nat) (hx : x < 18446744073709551616) (hl : lo < 18446744073709551616) (hh : hi < 18446744073709551616) : clamp x lo hi < 18446744073709551616 := by
  unfold clamp; (repeat' split) <;> omega
theorem mixv_lt (mean x wt : Nat) : mixv mean x wt < 18446744073709551616 := by
  unfold mixv
  split
  · decide
  · split
    · decide
    · split
      · decide
      · next h => exact cl_lt _ (bits_lt h)
theorem mixR_lt (mean x wt : Nat) (hm : mean < 18446744073709551616) (hx : x < 18446744073709551616) : mixR mean x wt < 18446744073709551616 := by
  unfold mixR
  split
  · decide
  · split
    · exact cl_lt _ hx
    · split
      · exact cl_lt _ hm
      · exact mixv_lt _ _ _
theorem ali_self (x : Nat) : ali x x = true := by unfold ali; simp
end Go.Proofs.Ytmfhokbognlhbaa.Rl
