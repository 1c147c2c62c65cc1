/-
  TermFirst is true for every row of numbers: the nearest of spans is one of them, none stands ahead of it, and it doesn't matter in which order they come. No conditions.
-/
import Derived.Test.YthocpkmlfkbiaaaTmNear
import Derived.PlainAid
import Derived.Laws.IdiomStrings
import Derived.Deep.AppendLies
import Derived.Deep.LoopGhost
import Derived.ProofKit
import Derived.OpenShut
import Derived.ShutString
namespace Go.Proofs.Ythocpkmlfkbiaaa.termFirst
open Go.ChangeShapes Go.WideShapes Go.ChangeAt Go.RowKit Go.PlainAid Go.Proofs.Ythocpkmlfkbiaaa.Rl Go.Proofs.Ythocpkmlfkbiaaa.Tm
open Go.ChangeMaps (open_string shut_string)
set_option linter.unusedVariables false

theorem nr1_comm (a x y : Nat) : nr1 (nr1 a x) y = nr1 (nr1 a y) x := by
  unfold nr1
  cases gd x <;> cases gd y <;> simp <;> omega
theorem fold_comm (l : List Nat) : ∀ a x, l.foldl nr1 (nr1 a x) = nr1 (l.foldl nr1 a) x := by
  induction l with
  | nil => intro a x; rfl
  | cons y l ih => intro a x; simp only [List.foldl_cons]; rw [nr1_comm, ih]
theorem fold_rev (l : List Nat) : ∀ a, l.reverse.foldl nr1 a = l.foldl nr1 a := by
  induction l with
  | nil => intro a; rfl
  | cons x l ih =>
    intro a
    rw [List.reverse_cons, List.foldl_append, ih, List.foldl_cons, List.foldl_cons, List.foldl_nil, fold_comm]
theorem nr_rev (l : List Nat) : nr l.reverse = nr l := by unfold nr; exact fold_rev l _
theorem fold_min (l : List Nat) : ∀ a x, x ∈ l → gd x = true → l.foldl nr1 a ≤ rg x := by
  induction l with
  | nil => intro a x h; cases h
  | cons y l ih =>
    intro a x h g
    rcases List.mem_cons.1 h with e | e
    · subst e
      refine Nat.le_trans (fold_le l _) ?_
      unfold nr1; rw [g, if_pos rfl]; omega
    · exact ih _ x e g
theorem nr_min (l : List Nat) (x : Nat) (h : x ∈ l) (g : gd x = true) : nr l ≤ rg x := by unfold nr; exact fold_min l _ x h g
/-- the number r is without end, or a span among them -/
def fnd (r : Nat) (l : List Nat) : Bool := decide (r = 9218868437227405312) || l.any fun x => gd x && decide (rg x = r)
theorem fold_one (l : List Nat) : ∀ a, l.foldl nr1 a = a ∨ ∃ x ∈ l, gd x = true ∧ rg x = l.foldl nr1 a := by
  induction l with
  | nil => intro a; exact .inl rfl
  | cons y l ih =>
    intro a
    rw [List.foldl_cons]
    rcases ih (nr1 a y) with e | ⟨x, h1, h2, h3⟩
    · rw [e]
      unfold nr1
      cases g : gd y with
      | false => exact .inl (by simp)
      | true =>
        rcases Nat.le_total a (rg y) with c | c
        · left; simp; omega
        · exact .inr ⟨y, by simp, g, by simp; omega⟩
    · exact .inr ⟨x, by simp [h1], h2, h3⟩
theorem fnd_all (l : List Nat) : fnd (nr l) l = true := by
  unfold fnd
  rw [Bool.or_eq_true]
  have := fold_one l 9218868437227405312
  unfold nr
  rcases this with e | ⟨x, h1, h2, h3⟩
  · exact .inl (decide_eq_true e)
  · refine .inr ?_
    rw [List.any_eq_true]
    exact ⟨x, h1, by rw [h2, decide_eq_true h3]; rfl⟩
theorem drop_one (l : List Nat) (j x : Nat) (h : l[j]? = some x) : l.drop j = x :: l.drop (j + 1) := by
  obtain ⟨hj, e⟩ := List.getElem?_eq_some_iff.1 h
  rw [List.drop_eq_getElem_cons hj, e]
theorem fnd_cons (r x : Nat) (l : List Nat) : fnd r (x :: l) = (fnd r l || (gd x && decide (rg x = r))) := by
  unfold fnd
  rw [List.any_cons]
  cases decide (r = 9218868437227405312) <;> cases (gd x && decide (rg x = r)) <;> simp
theorem lt_none {x r : Nat} (hx : x < 18446744073709551616) (hr : r ≤ 9218868437227405312) (g : gd x = true) (h : r ≤ rg x) : (FloatKind.f64.format.order x r == some .lt) = false := by
  obtain ⟨g1, g2, g3⟩ := gd_rg hx g
  rw [ord_lt x r hx (by omega), place_pos' hr, g2, show kp (r : Int) = r by unfold kp; rw [if_neg (by omega)]]
  exact decide_eq_false (by omega)
theorem eq_rg {x r : Nat} (hx : x < 18446744073709551616) (hr : r ≤ 9218868437227405312) (g : gd x = true) : (FloatKind.f64.format.order x r == some .eq) = decide (rg x = r) := by
  obtain ⟨g1, g2, g3⟩ := gd_rg hx g
  have g := of_decide_eq_true g
  rw [ord_eq x r hx (by omega), place_pos' hr, g2, show kp (r : Int) = r by unfold kp; rw [if_neg (by omega)]]
  congr 1; apply propext; omega
theorem cls_inf {r : Nat} (hr : r ≤ 9218868437227405312) : cls (place r) = 7 ↔ r = 9218868437227405312 := by
  have := cls_of _ (place_range r (by omega))
  rw [place_pos' hr] at *
  omega
def flV (l : List Nat) : List Value := l.map fun x => .float .f64 x
theorem flV_len (l : List Nat) : (flV l).length = l.length := by simp [flV]
theorem flV_snoc (l : List Nat) (x : Nat) : flV l ++ [.float .f64 x] = flV (l ++ [x]) := by simp [flV]
theorem own_fls {w : World} {base n : Nat} {v : Value} {l : List Nat} (h : w.ownsRow base 22 1 v n (flV l)) : FlsAt w v l := by
  have hn : (flV l).length = n * 1 := h.1
  rw [flV_len, Nat.mul_one] at hn
  rcases h.2 with ⟨rfl, h0⟩ | ⟨g, cap, cur, rfl, hb, hg, hnc, hcm, hcs, htk⟩
  · have : l = [] := List.eq_nil_of_length_eq_zero (by omega)
    subst this
    exact none_fls w
  · subst hn
    refine ⟨some ⟨g, 0, none⟩, cap, rfl, fun j x hx => ⟨_, rfl, ?_, ?_⟩⟩
    · exact (h.lt g rfl).2
    · exact h.cells rfl j _ (by simp [flV, hx])
theorem infoF : (Try.prog.info? 22).map (fun i => (i.zero, i.size, i.bytes)) = some (some (.float .f64 0), 1, 8) := by kernel_rfl
theorem made0 (w : World) : (w.alloc (.cells #[] 22)).ownsRow w.heap.size 22 1 (.slice (some ⟨w.heap.size, 0, none⟩) 0 0) 0 (flV []) := World.ownsRow_lit w #[] 0 (Nat.le_refl _) (by decide) rfl

set_option maxHeartbeats 4000000 in
set_option maxRecDepth 20000 in
theorem walk {v : Value} (l : List Nat) {w : World} (hv : FlsAt w v l) (hl : l.length ≤ 9223372036854775807) (hz : ∀ y ∈ l, y < 18446744073709551616) (W' : World) :
    Calls Try.prog 8 #[v] w fun e w' => e = .returned (.bool true) ∧ Below w.heap.size w w' := by
  have A := awake_any w
  have N := nearest_any hv hl hz
  have hr := nr_le l
  have hm := nr_min l
  have ha := fnd_all l
  have hrev := nr_rev l
  have C : ∀ w, Calls Try.prog 24 #[.float .f64 (nr l)] w fun e w' => e = .returned (.int .i64 (cls (place (nr l)))) ∧ w = w' := fun w => class_any (nr l) w (by omega)
  have ci := cls_inf hr
  generalize nr l = r at *
  obtain ⟨base, cap, rfl, hc⟩ := hv.is
  clear hv
  have HC := Lib.hid hc
  have HZ := Lib.hid hz
  have HM := Lib.hid hm
  have HA := Lib.hid ha
  have HR := Lib.hid hrev
  clear hc hz hm ha hrev
  by_cases c : 60 < l.length
  · have d1 : decide ((60 : Int) < (l.length : Int)) = true := by simp; omega
    go_enter Try.func8, Try.ntmps8
    go_wp2_with fail
    refine A.mono ?_
    rintro e w' ⟨rfl, rfl⟩
    clear A N C
    go_wp2
    all_goals go_ret
    all_goals exact ⟨rfl, Below.refl _ _⟩
  have d1 : decide ((60 : Int) < (l.length : Int)) = false := by simp; omega
  obtain ⟨i0, hi, hz0, hz1, hz2⟩ := info_parts infoF
  obtain ⟨q, hq⟩ : ∃ q, cls (place r) = q := ⟨_, rfl⟩
  simp only [hq] at C ci
  have F0 : Hid ((q == 7) = fnd r []) := Lib.hid (by
    unfold fnd
    by_cases z : q = 7
    · rw [decide_eq_true (ci.1 z), z]; rfl
    · rw [decide_eq_false (fun h => z (ci.2 h)), beq_eq_false_iff_ne.2 z]; rfl)
  clear ci hq
  have C' : ∀ w, Calls Try.prog 24 #[.float .f64 9218868437227405312] w fun e w' => e = .returned (.int .i64 7) ∧ w = w' := fun w => by
    have := class_any 9218868437227405312 w (by decide)
    rw [show cls (place 9218868437227405312) = 7 by decide] at this
    exact this
  have gr : gd r = true := by unfold gd; rw [place_pos' hr]; exact decide_eq_true (by omega)
  have G' : ∀ w, Calls Try.prog 12 #[.float .f64 r] w fun e w' => e = .returned (.bool true) ∧ w = w' := fun w => by
    have := good_any r w (by omega)
    rw [gr] at this
    exact this
  have S' : ∀ w, Calls Try.prog 25 #[.float .f64 r, .float .f64 r] w fun e w' => e = .returned (.bool true) ∧ w = w' := fun w => by
    have := same_any r r w (by omega) (by omega)
    rw [show eq r r = true by unfold eq; exact decide_eq_true rfl] at this
    exact this
  clear gr
  go_enter Try.func8, Try.ntmps8
  go_wp2_with fail
  refine A.mono ?_
  rintro e w' ⟨rfl, rfl⟩
  go_wp2_with fail
  refine N.mono ?_
  rintro e w' ⟨rfl, rfl⟩
  go_wp2_with fail
  refine (C _).mono ?_
  rintro e w' ⟨rfl, rfl⟩
  have own0 := made0 w
  have bel0 : Below w.heap.size w (w.alloc (.cells #[] 22)) := (Below.refl _ _).alloc (Nat.le_refl _) _
  generalize w.alloc (.cells #[] 22) = wA at *
  have CL : Hid (∀ (j x : Nat) (a : Addr), base = some a → l[j]? = some x → ∀ y, Below w.heap.size w y → y.cell? (a.add j) = some (.float .f64 x)) := Lib.hid fun j x a e1 h1 y hy => by
    obtain ⟨a', e2, ha, hcell⟩ := HC.out j x h1
    rw [e1] at e2
    simp only [Option.some.injEq] at e2
    subst e2
    rw [hy.cell (by rw [show (a.add j).block = a.block by unfold Addr.add; split <;> rfl]; exact ha)]
    exact hcell
  clear A N C
  go_wp2
  go_loopw [4, 5, 6] (fun v f i wr => ∃ (k : Nat) (z : Int) (F : Bool), k ≤ l.length ∧ i = .int .i64 z ∧ z = (k : Int) - 1 ∧ f = .bool F ∧ F = fnd r (l.drop k) ∧ wr.ownsRow w.heap.size 22 1 v (l.length - k) (flV (l.drop k).reverse) ∧ Below w.heap.size w wr) (fun _ _ i _ => (intOf i + 1).toNat)
  case atStart =>
    refine ⟨l.length, _, _, Nat.le_refl _, rfl, by go_num, rfl, ?_, ?_, bel0⟩
    · rw [List.drop_length]; exact F0.out
    · rw [List.drop_length, Nat.sub_self]; exact own0
  case round =>
    clear own0 bel0
    obtain ⟨k, z, F, hk, rfl, hz', rfl, hF, hown, hbel⟩ := hrel
    have HF := Lib.hid hF
    clear hF
    have hsz : w.heap.size ≤ wr.heap.size := hbel.size
    rcases Nat.eq_zero_or_pos k with k0 | kp
    · subst k0
      obtain rfl : z = -1 := by omega
      have F1 : F = true := by rw [HF.out, List.drop_zero]; exact HA.out
      subst F1
      rw [List.drop_zero] at hown
      have nb := nearest_any (own_fls hown) (by simp; omega) (fun y hy => HZ.out y (List.mem_reverse.1 hy))
      rw [HR.out] at nb
      have n0 := nearest_any (none_fls wr) (by simp) (by simp)
      rw [nr_nil] at n0
      have C'' := C' wr
      clear hz' hk hown
      go_wp2_with fail
      refine nb.mono ?_
      rintro e w' ⟨rfl, rfl⟩
      go_wp2_with fail
      refine (S' wr).mono ?_
      rintro e w' ⟨rfl, rfl⟩
      go_wp2_with fail
      refine (G' wr).mono ?_
      rintro e w' ⟨rfl, rfl⟩
      go_wp2_with fail
      refine n0.mono ?_
      rintro e w' ⟨rfl, rfl⟩
      go_wp2_with fail
      refine C''.mono ?_
      rintro e w' ⟨rfl, rfl⟩
      clear nb n0 C' C'' S' G'
      go_wp2
      go_ret
      exact ⟨rfl, hbel⟩
    · obtain ⟨j, rfl⟩ : ∃ j, k = j + 1 := ⟨k - 1, by omega⟩
      obtain rfl : z = (j : Int) := by omega
      obtain ⟨x, hs⟩ : ∃ x, l[j]? = some x := ⟨l[j], List.getElem?_eq_getElem (by omega)⟩
      obtain ⟨a, rfl, _, _⟩ := HC.out j x hs
      have hx := HZ.out x (List.mem_of_getElem? hs)
      have c1 := CL.out j x a rfl hs wr hbel
      have l1 : (j : Int) < (l.length : Int) := by omega
      have e1 : Hid (l.drop j = x :: l.drop (j + 1)) := Lib.hid (drop_one l j x hs)
      have hin := Lib.hid (List.mem_of_getElem? hs)
      have HS := Lib.hid hs
      clear hs hz'
      go_wp2_with (at_builtin; refine wpList_append_lies _ rfl _ _ _ rfl w.heap.size 22 i0 _ 1 8 Try.underlying32 hi hz0 hz1 hz2 rfl (by omega) u4 (l.length - (j + 1)) _ (by rfl) (hown.alloc _) ⟨wr.heap.size, 0, none⟩ 1 1 [_] (by rfl) (by rfl) (World.news_of_block (cs := #[_]) (t := 22) (fr := (0, 0)) (heap_alloc_new wr _)) (by simp [Value.oneCell']) (by omega) (by unfold maxLen; omega) (by omega) (by simp; omega) (wr.heap.size + 1) (by simp) ?_; intro g cap w1 hown1 hgrow hat hlt1; have L := (hbel.alloc hsz _).grown hgrow (by simp; omega) (fun j hj => (hown.lt j hj).1); have c2 := CL.out j x a rfl HS.out w1 L)
      have R : Hid (w1.ownsRow w.heap.size 22 1 (.slice (some ⟨g, 0, none⟩) (l.length - (j + 1) + 1) cap) (l.length - j) (flV (l.drop j).reverse)) := Lib.hid (by
        rw [e1.out, List.reverse_cons, ← flV_snoc, show l.length - j = l.length - (j + 1) + 1 by omega]
        exact hown1)
      clear hown1 hgrow hat hlt1 hown c1
      have G := good_any x w1 hx
      cases gx : gd x with
      | false =>
        have F2 : Hid (F = fnd r (l.drop j)) := Lib.hid (by rw [e1.out, fnd_cons, gx, ← HF.out]; simp)
        rw [gx] at G
        clear gx
        go_wp2_with fail
        refine G.mono ?_
        rintro e w' ⟨rfl, rfl⟩
        clear G C' S' G'
        go_wp2
        go_roundw
        case rel => exact ⟨j, _, F, by omega, rfl, by go_num, rfl, F2.out, R.out, L⟩
        case measure => simp [intOf]
      | true =>
        have o1 := lt_none hx hr gx (HM.out x hin.out gx)
        have o2 := eq_rg hx hr gx
        have F2 : Hid ((F || decide (rg x = r)) = fnd r (l.drop j)) := Lib.hid (by rw [e1.out, fnd_cons, gx, ← HF.out]; simp)
        rw [gx] at G
        generalize decide (rg x = r) = q2 at *
        clear gx
        cases F with
        | true =>
          go_wp2_with fail
          refine G.mono ?_
          rintro e w' ⟨rfl, rfl⟩
          clear G C' S' G'
          go_wp2
          go_roundw
          case rel => exact ⟨j, _, true, by omega, rfl, by go_num, rfl, F2.out, R.out, L⟩
          case measure => simp [intOf]
        | false =>
          go_wp2_with fail
          refine G.mono ?_
          rintro e w' ⟨rfl, rfl⟩
          clear G C' S' G'
          go_wp2
          go_roundw
          case rel => exact ⟨j, _, q2, by omega, rfl, by go_num, rfl, F2.out, R.out, L⟩
          case measure => simp [intOf]

theorem own : ownKnob Try.prog.godebug = none := by kernel_rfl

theorem laidOut : laidOutB Try.prog = true := by kernel_rfl
set_option maxRecDepth 100000 in
theorem lifted (os : Os) (started : os.Started) (H : Type) (enc : TypeId × Value → H) :
    ReturnsInHanded {} Try.checked os 8 .any (Rows.termFirstSpec.pre6 enc Try.prog Try.f8 Rows.termFirstRow.domain false) (Rows.termFirstSpec.post enc Try.prog Try.f8 false true false false) := by
  refine returnsInHanded_of_change (C := Try.checked) own started (by kernel_rfl) Try.func8
    (ChangeSpec.witness6 (enc := enc) (C := Try.checked) false ⟨#[], #[.slice none 0 0], []⟩ 8 (by kernel_rfl) (by kernel_rfl) (by kernel_rfl) (by kernel_rfl)) ?_
  intro W base args ds gs before hval0 hW hcnd _
  have hval : ∀ (j : Nat) t v, Try.f8.params[j]? = some t → args[j]? = some v → Value.okWide Try.prog W .any base t v := hval0
  have hW' := hW
  obtain ⟨p, q, hA0, hV, rfl, hfz, hnd⟩ := hW
  have hA : DataW.TrodAll enc Try.prog W 0 (fun _ => true) true Try.f8.params.toList args.toList ds p := hA0
  rw [Try.params8] at hA hval
  obtain ⟨v0, vs0, d0, ds0, p0, q0, hargs, rfl, rfl, h0, r0⟩ := trodAll_cons hA
  obtain ⟨rfl, rfl, rfl⟩ := trodAll_nil r0
  obtain rfl : args = #[v0] := by cases args; simp_all
  obtain ⟨rfl, rfl⟩ := trodVars_none hV
  obtain ⟨b0, len0, cap0, rfl⟩ := okWide_slice Try.underlying32 (hval 0 32 v0 rfl rfl)
  have hlt0 : ∀ x ∈ p0, x.block < W.heap.size := fun x hx => by simpa using hW'.lt x (by simp [hx])
  have hS0 : ∃ l : List Nat, FlsAt W (.slice b0 len0 cap0) l ∧ l.length ≤ 9223372036854775807 ∧ ∀ y ∈ l, y < 18446744073709551616 := by
    obtain ⟨fuel, hf⟩ := h0
    exact open_fls Try.underlying32 Try.underlying22 (by kernel_rfl) hf
  obtain ⟨a0, w0, y0, z0⟩ := hS0
  clear hA0 hval0
  simp only [List.append_nil] at hW'
  refine (walk a0 w0 y0 z0 W).mono fun e W' ⟨he, bel⟩ => ?_
  subst he
  exact ⟨_, rfl, _, _, _, [], _, [], hW', trodAll_mk1 (shut_bool Try.underlying4 _), (trodAll_cons_mk (Below.trod laidOut (by kernel_rfl) (of_decide_eq_true (by kernel_rfl)) h0 bel hlt0) trodAll_mk0), rfl, bel.frame _, fun h => by cases h⟩

theorem over : Rows.termFirstRow.holds Try.pinned (OpenSpec.ofChange Rows.termFirstSpec) :=
  OpenClaim.holds_of_wide 8 Try.f8 rfl rfl rfl rfl rfl rfl rfl ⟨rfl, rfl, rfl, rfl, rfl⟩ rfl rfl rfl rfl rfl (by kernel_rfl) Try.func8 (by kernel_rfl)
    (of_decide_eq_true (by kernel_rfl)) (by unfold Func.isWrapper; first | (rw [if_pos (by decide +kernel)]; kernel_rfl) | (rw [if_neg (by decide +kernel)]; exact ⟨rfl, rfl⟩))
    (fun os started H enc _ => lifted os started H enc)

theorem proved : Rows.TermFirstSaid :=
  over
#print axioms proved
end Go.Proofs.Ythocpkmlfkbiaaa.termFirst
