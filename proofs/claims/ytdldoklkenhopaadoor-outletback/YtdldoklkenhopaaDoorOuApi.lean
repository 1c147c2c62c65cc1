/-
  Contracts of Answer and Ask of package outlet. Conditions: at most 60 fields; texts within the form's reach.
-/
import Derived.Test.YtdldoklkenhopaaDoorOuHead2
import Derived.Test.YtdldoklkenhopaaDoorOuLeaf
import Derived.Test.YtdldoklkenhopaaDoorHxDecs
import Derived.Test.YtdldoklkenhopaaDoorInLine2
namespace Go.Proofs.YtdldoklkenhopaaDoor.Ou
open Go.RowKit Go.PlainAid
open Hx Fi Ch In
set_option linter.unusedVariables false
set_option maxRecDepth 20000
set_option linter.unusedSimpArgs false

theorem ans_text (n : Nat) : ls ((⟨#[72, 84, 84, 80, 47, 49, 46, 49, 32]⟩ : ByteArray) ++ tx (digL 8 n) ++ (⟨#[32]⟩ : ByteArray) ++ reaB (n : Int)) = ansL n := by
  rw [ls_append, ls_append, ls_append, ls_tx]
  unfold ansL
  rw [show ls (⟨#[72, 84, 84, 80, 47, 49, 46, 49, 32]⟩ : ByteArray) = vL ++ [32] from rfl, show ls (⟨#[32]⟩ : ByteArray) = [32] from rfl]
  simp
theorem ask_text (m t : ByteArray) : ls (m ++ (⟨#[32]⟩ : ByteArray) ++ t ++ (⟨#[32]⟩ : ByteArray) ++ (⟨#[72, 84, 84, 80, 47, 49, 46, 49]⟩ : ByteArray)) = askL (ls m) (ls t) := by
  rw [ls_append, ls_append, ls_append, ls_append]
  unfold askL
  rw [show ls (⟨#[72, 84, 84, 80, 47, 49, 46, 49]⟩ : ByteArray) = vL from rfl, show ls (⟨#[32]⟩ : ByteArray) = [32] from rfl]
  simp
set_option maxHeartbeats 4000000 in
theorem answer_any {w : World} {v : Value} {xs : List Fi.Fd} (n : Int) (hv : FdsAt w v xs) (hl : xs.length ≤ 60) (hr : Fi.Reach xs) :
    Calls Tryd.prog 6 #[.int .i64 n, v] w fun e w' => e = .returned (.tuple #[.string (ansS n xs), .int .i64 (ansE n xs)]) ∧ Below w.heap.size w w' := by
  obtain ⟨base, cap, rfl, _, _⟩ := hv.is
  by_cases h1 : n < 100
  · obtain ⟨e1, e2⟩ := ans_out (n := n) (xs := xs) (.inl h1)
    rw [e1, e2]
    clear e1 e2 hv hr
    go_enter Tryd.func6, Tryd.ntmps6
    go_wp2
    go_ret2
    exact ⟨rfl, Below.refl _ _⟩
  by_cases h2 : 599 < n
  · obtain ⟨e1, e2⟩ := ans_out (n := n) (xs := xs) (.inr h2)
    rw [e1, e2]
    clear e1 e2 hv hr
    go_enter Tryd.func6, Tryd.ntmps6
    go_wp2
    go_ret2
    exact ⟨rfl, Below.refl _ _⟩
  obtain ⟨e1, e2⟩ := ans_in (n := n) (xs := xs) (by omega)
  rw [e1, e2]
  clear e1 e2
  obtain ⟨k, rfl⟩ : ∃ k : Nat, n = (k : Int) := ⟨n.toNat, by omega⟩
  rw [show (k : Int).toNat = k from rfl]
  have ht := ans_text k
  have d3 := (dig3 (n := k) (by omega) (by omega)).2
  have dc := fun w => dec_pos (k : Int) w (by omega) (by omega)
  have rs := fun w => reason_any (k : Int) w
  have rz := reaB_size (k : Int)
  rw [show (k : Int).toNat = k from rfl] at dc
  obtain ⟨D, hD⟩ : ∃ D, tx (digL 8 k) = D := ⟨_, rfl⟩
  have dz : D.size = 3 := by rw [← hD, tx_size, d3]
  change ∀ w, Calls _ _ _ _ (fun e w' => e = .returned (.string (tx (digL 8 k))) ∧ _) at dc
  rw [hD] at dc ht
  obtain ⟨R, hR⟩ : ∃ R, reaB (k : Int) = R := ⟨_, rfl⟩
  rw [hR] at rs rz ht
  obtain ⟨A1, hA1⟩ : ∃ A1, (⟨#[72, 84, 84, 80, 47, 49, 46, 49, 32]⟩ : ByteArray) ++ D = A1 := ⟨_, rfl⟩
  have z1 : A1.size = 12 := by rw [← hA1, ByteArray.size_append, dz]; rfl
  obtain ⟨A2, hA2⟩ : ∃ A2, A1 ++ (⟨#[32]⟩ : ByteArray) = A2 := ⟨_, rfl⟩
  have z2 : A2.size = 13 := by rw [← hA2, ByteArray.size_append, z1]; rfl
  obtain ⟨A3, hA3⟩ : ∃ A3, A2 ++ R = A3 := ⟨_, rfl⟩
  have z3 : A3.size ≤ 44 := by rw [← hA3, ByteArray.size_append, z2]; omega
  rw [hA1, hA2, hA3] at ht
  have hd := fun (z : World) (b : Below w.heap.size w z) => head_any (w := z) A3 (hv.below b) (by omega) hl hr
  rw [ht] at hd
  have i1 : ¬ (k : Int) < 100 := by omega
  have i2 : ¬ (599 : Int) < (k : Int) := by omega
  clear ht hv hr d3 hD hR h1 h2
  go_enter Tryd.func6, Tryd.ntmps6
  go_wp2_with fail
  refine (dc _).mono ?_
  rintro e w1 ⟨rfl, F1⟩
  clear dc
  go_wp2_with fail
  refine (rs _).mono ?_
  rintro e w2 ⟨rfl, rfl⟩
  clear rs
  have h3 := hd _ F1
  go_wp2_with fail
  refine h3.mono ?_
  rintro e w3 ⟨rfl, F3⟩
  replace F1 := F1.trans (F3.mono F1.size)
  clear h3 hd F3
  go_wp2
  go_ret2
  exact ⟨rfl, F1⟩
set_option maxHeartbeats 4000000 in
theorem ask_any {w : World} {v : Value} {xs : List Fi.Fd} (m t : ByteArray) (hv : FdsAt w v xs) (hm : m.size ≤ 140737488355328) (ht : t.size ≤ 140737488355328) (hl : xs.length ≤ 60) (hr : Fi.Reach xs) :
    Calls Tryd.prog 8 #[.string m, .string t, v] w fun e w' => e = .returned (.tuple #[.string (askS (ls m) (ls t) xs), .int .i64 (askE (ls m) (ls t) xs)]) ∧ Below w.heap.size w w' := by
  obtain ⟨base, cap, rfl, _, _⟩ := hv.is
  by_cases h1 : 1024 < m.size + t.size + 10
  · obtain ⟨e1, e2⟩ := ask_out (xs := xs) (askO_long (m := ls m) (t := ls t) (by rw [ls_len, ls_len]; omega))
    rw [e1, e2]
    clear e1 e2 hv hr
    go_enter Tryd.func8, Tryd.ntmps8
    go_wp2
    go_ret2
    exact ⟨rfl, Below.refl _ _⟩
  have hx := ask_text m t
  obtain ⟨A1, hA1⟩ : ∃ A1, m ++ (⟨#[32]⟩ : ByteArray) = A1 := ⟨_, rfl⟩
  have z1 : A1.size = m.size + 1 := by rw [← hA1, ByteArray.size_append]; rfl
  obtain ⟨A2, hA2⟩ : ∃ A2, A1 ++ t = A2 := ⟨_, rfl⟩
  have z2 : A2.size = m.size + 1 + t.size := by rw [← hA2, ByteArray.size_append, z1]
  obtain ⟨A3, hA3⟩ : ∃ A3, A2 ++ (⟨#[32]⟩ : ByteArray) = A3 := ⟨_, rfl⟩
  have z3 : A3.size = m.size + 1 + t.size + 1 := by rw [← hA3, ByteArray.size_append, z2]; rfl
  obtain ⟨A4, hA4⟩ : ∃ A4, A3 ++ (⟨#[72, 84, 84, 80, 47, 49, 46, 49]⟩ : ByteArray) = A4 := ⟨_, rfl⟩
  have z4 : A4.size = m.size + 1 + t.size + 1 + 8 := by rw [← hA4, ByteArray.size_append, z3]; rfl
  rw [hA1, hA2, hA3, hA4] at hx
  have ln := fun w => line_any A4 w (by omega)
  rw [hx] at ln
  have y1 : A1.size ≤ 1024 := by omega
  have y2 : A2.size ≤ 1024 := by omega
  have y3 : A3.size ≤ 1024 := by omega
  have y4 : A4.size ≤ 1024 := by omega
  have i1 : m.size ≤ 1024 := by omega
  have i2 : t.size ≤ 1024 := by omega
  have i3 : (m.size : Int) + 1 + (t.size : Int) + 1 + 8 ≤ 1024 := by omega
  cases hq : lnQ (askL (ls m) (ls t)) with
  | error st =>
    obtain ⟨e1, e2⟩ := ask_out (xs := xs) (askO_bad hq)
    rw [e1, e2]
    rw [hq] at ln
    simp only [ln_err] at ln
    have hst := lnQ_err hq
    clear e1 e2 hv hr hq hx z1 z2 z3 z4
    rcases hst with rfl | rfl
    · go_enter Tryd.func8, Tryd.ntmps8
      go_wp2_with fail
      refine (ln _).mono ?_
      rintro e w1 ⟨rfl, F1⟩
      clear ln
      go_wp2
      go_ret2
      exact ⟨rfl, F1⟩
    · go_enter Tryd.func8, Tryd.ntmps8
      go_wp2_with fail
      refine (ln _).mono ?_
      rintro e w1 ⟨rfl, F1⟩
      clear ln
      go_wp2
      go_ret2
      exact ⟨rfl, F1⟩
  | ok p =>
    obtain ⟨e1, e2⟩ := ask_in (xs := xs) (askO_ok hq (by rw [ls_len, ls_len]; omega))
    rw [e1, e2]
    rw [hq] at ln
    obtain ⟨a, b, c⟩ := p
    simp only [ln_ok] at ln
    have hd := fun (z : World) (b : Below w.heap.size w z) => head_any (w := z) A4 (hv.below b) (by omega) hl hr
    rw [hx] at hd
    generalize tx a = M at ln
    generalize tx b = U at ln
    clear e1 e2 hv hr hq hx z1 z2 z3 z4
    go_enter Tryd.func8, Tryd.ntmps8
    go_wp2_with fail
    refine (ln _).mono ?_
    rintro e w1 ⟨rfl, F1⟩
    clear ln
    have h3 := hd _ F1
    go_wp2_with fail
    refine h3.mono ?_
    rintro e w3 ⟨rfl, F3⟩
    replace F1 := F1.trans (F3.mono F1.size)
    clear h3 hd F3
    go_wp2
    go_ret2
    exact ⟨rfl, F1⟩
end Go.Proofs.YtdldoklkenhopaaDoor.Ou
