/-
  FieldFrames, walked: a body is framed one way, or none.
-/
import Derived.Test.YtdimjeajgmlfkabDoorFiFrame
import Derived.Test.YtdimjeajgmlfkabDoorFiAwakeB
namespace Go.Proofs.YtdimjeajgmlfkabDoor.Fi
open Go.RowKit Go.PlainAid
open Hx
set_option linter.unusedVariables false
set_option maxRecDepth 20000
set_option linter.unusedSimpArgs false

inductive FrCase (t k : Nat) (m : Int) : Int → Bool → Int → Prop
  | many (h : 1 < k + t) : FrCase t k m 0 false 3
  | none (ht : t = 0) (hk : k = 0) : FrCase t k m (-1) false 0
  | len (n : Int) (ht : t = 0) (hk : k = 1) (h0 : 0 ≤ n) (h1 : n ≤ m) : FrCase t k m n false 0
  | bad (e : Int) (h : k + t = 1) (he : e = 3 ∨ e = 4) : FrCase t k m 0 false e
  | chunked (ht : t = 1) (hk : k = 0) : FrCase t k m 0 true 0
theorem frF_case (xs : List Fd) (m : Int) : FrCase (getN (ls nTE) xs) (getN (ls nCL) xs) m (frF xs m).n (frF xs m).c (frF xs m).e := by
  unfold frF
  generalize getN (ls nTE) xs = t
  generalize getN (ls nCL) xs = k
  by_cases c0 : t = 0 ∧ k = 0
  · rw [if_pos c0]; exact .none c0.1 c0.2
  rw [if_neg c0]
  by_cases c1 : 1 < t + k
  · rw [if_pos c1]; exact .many (by omega)
  rw [if_neg c1]
  by_cases c2 : k = 1
  · rw [if_pos c2]
    generalize getS (ls nCL) xs = s
    rcases und_cases s m with ⟨e1, e2, e3⟩ | ⟨e1 | e1, e2⟩
    · have a : lenE s m = 0 := by unfold lenE; rw [e1]; rfl
      have b : lenN s m = undN s m := by unfold lenN; rw [e1]; rfl
      show FrCase t k m (lenN s m) false (lenE s m)
      rw [a, b]; exact .len _ (by omega) c2 e2 e3
    · have a : lenE s m = 4 := by unfold lenE; rw [e1]; rfl
      have b : lenN s m = 0 := by unfold lenN; rw [e1]; rfl
      show FrCase t k m (lenN s m) false (lenE s m)
      rw [a, b]; exact .bad _ (by omega) (.inr rfl)
    · have a : lenE s m = 3 := by unfold lenE; rw [e1]; rfl
      have b : lenN s m = 0 := by unfold lenN; rw [e1, e2]; rfl
      show FrCase t k m (lenN s m) false (lenE s m)
      rw [a, b]; exact .bad _ (by omega) (.inl rfl)
  rw [if_neg c2]
  split
  · exact .chunked (by omega) (by omega)
  · exact .bad _ (by omega) (.inl rfl)
theorem frames_many {w : World} {v : Value} {xs : List Fd} (m : Int) (hv : FdsAt w v xs) (hl : xs.length ≤ 9223372036854775807) (h : 60 < xs.length) :
    Calls Tryd.prog 3 #[v, .int .i64 m] w fun e w' => e = .returned (.bool true) ∧ Below w.heap.size w w' := by
  obtain ⟨base, cap, rfl, _, _⟩ := hv.is
  clear hv
  have d2 : (60 : Int) < (xs.length : Int) := by omega
  go_enter Tryd.func3, Tryd.ntmps3
  go_wp2_with fail
  refine (awake_any _).mono ?_
  rintro e w1 ⟨rfl, F1⟩
  go_wp2
  go_ret
  exact ⟨rfl, F1⟩
set_option maxHeartbeats 2000000 in
theorem frames_few {w : World} {v : Value} {xs : List Fd} (m : Int) (hv : FdsAt w v xs) (hl : xs.length ≤ 60) (hr : Reach xs) (h2 : -9223372036854775808 ≤ m) (h3 : m ≤ 9223372036854775807) :
    Calls Tryd.prog 3 #[v, .int .i64 m] w fun e w' => e = .returned (.bool true) ∧ Below w.heap.size w w' := by
  have d2 : ¬ (60 : Int) < (xs.length : Int) := by omega
  have r1 : ∀ w2, Below w.heap.size w w2 → Calls Tryd.prog 5 #[v, .string ⟨#[67, 111, 110, 116, 101, 110, 116, 45, 76, 101, 110, 103, 116, 104]⟩] w2 fun e w' => e = .returned (.tuple #[.string (getS (ls nCL) xs), .int .i64 (getN (ls nCL) xs)]) ∧ Below w2.heap.size w2 w' := fun w2 hb => get_any nCL (hv.below hb) (by omega) (by decide) hr
  have r2 : ∀ w2, Below w.heap.size w w2 → Calls Tryd.prog 5 #[v, .string ⟨#[84, 114, 97, 110, 115, 102, 101, 114, 45, 69, 110, 99, 111, 100, 105, 110, 103]⟩] w2 fun e w' => e = .returned (.tuple #[.string (getS (ls nTE) xs), .int .i64 (getN (ls nTE) xs)]) ∧ Below w2.heap.size w2 w' := fun w2 hb => get_any nTE (hv.below hb) (by omega) (by decide) hr
  have r3 := fun w2 (hb : Below w.heap.size w w2) => frame_any m (hv.below hb) (by omega) hr h2 h3
  have n1 : getN (ls nTE) xs ≤ 60 := Nat.le_trans (valsF_le _ _) hl
  have n2 : getN (ls nCL) xs ≤ 60 := Nat.le_trans (valsF_le _ _) hl
  have fc := frF_case xs m
  obtain ⟨base, cap, rfl, _, _⟩ := hv.is
  clear hv hr hl
  generalize getS (ls nTE) xs = s1 at *
  generalize getS (ls nCL) xs = s2 at *
  generalize getN (ls nTE) xs = t at *
  generalize getN (ls nCL) xs = k at *
  generalize (frF xs m).n = N at *
  generalize (frF xs m).c = C at *
  generalize (frF xs m).e = E at *
  cases fc with
  | many h =>
    have g : (1 : Int) < (k : Int) ∨ (¬ (1 : Int) < (k : Int) ∧ (1 : Int) < (t : Int)) ∨ (¬ (1 : Int) < (k : Int) ∧ ¬ (1 : Int) < (t : Int) ∧ (1 : Int) < (k : Int) + (t : Int)) := by omega
    rcases g with g1 | ⟨g1, g2⟩ | ⟨g1, g2, g3⟩
    all_goals
      go_enter Tryd.func3, Tryd.ntmps3
      go_wp2_with fail
      refine (awake_any _).mono ?_
      rintro e w1 ⟨rfl, F1⟩
      go_wp2_with fail
      refine (r1 _ F1).mono ?_
      rintro e w2 ⟨rfl, G2⟩
      replace F1 := F1.trans (G2.mono F1.size)
      clear G2 r1
      go_wp2_with fail
      refine (r2 _ F1).mono ?_
      rintro e w3 ⟨rfl, G3⟩
      replace F1 := F1.trans (G3.mono F1.size)
      clear G3 r2
      go_wp2_with fail
      refine (r3 _ F1).mono ?_
      rintro e w4 ⟨rfl, G4⟩
      replace F1 := F1.trans (G4.mono F1.size)
      clear G4 r3
      go_wp2
      go_ret
      exact ⟨rfl, F1⟩
  | none ht hk =>
    subst ht hk
    go_enter Tryd.func3, Tryd.ntmps3
    go_wp2_with fail
    refine (awake_any _).mono ?_
    rintro e w1 ⟨rfl, F1⟩
    go_wp2_with fail
    refine (r1 _ F1).mono ?_
    rintro e w2 ⟨rfl, G2⟩
    replace F1 := F1.trans (G2.mono F1.size)
    clear G2 r1
    go_wp2_with fail
    refine (r2 _ F1).mono ?_
    rintro e w3 ⟨rfl, G3⟩
    replace F1 := F1.trans (G3.mono F1.size)
    clear G3 r2
    go_wp2_with fail
    refine (r3 _ F1).mono ?_
    rintro e w4 ⟨rfl, G4⟩
    replace F1 := F1.trans (G4.mono F1.size)
    clear G4 r3
    go_wp2
    go_ret
    exact ⟨rfl, F1⟩
  | chunked ht hk =>
    subst ht hk
    go_enter Tryd.func3, Tryd.ntmps3
    go_wp2_with fail
    refine (awake_any _).mono ?_
    rintro e w1 ⟨rfl, F1⟩
    go_wp2_with fail
    refine (r1 _ F1).mono ?_
    rintro e w2 ⟨rfl, G2⟩
    replace F1 := F1.trans (G2.mono F1.size)
    clear G2 r1
    go_wp2_with fail
    refine (r2 _ F1).mono ?_
    rintro e w3 ⟨rfl, G3⟩
    replace F1 := F1.trans (G3.mono F1.size)
    clear G3 r2
    go_wp2_with fail
    refine (r3 _ F1).mono ?_
    rintro e w4 ⟨rfl, G4⟩
    replace F1 := F1.trans (G4.mono F1.size)
    clear G4 r3
    go_wp2
    go_ret
    exact ⟨rfl, F1⟩
  | len N ht hk h0 h1 =>
    subst ht hk
    go_enter Tryd.func3, Tryd.ntmps3
    go_wp2_with fail
    refine (awake_any _).mono ?_
    rintro e w1 ⟨rfl, F1⟩
    go_wp2_with fail
    refine (r1 _ F1).mono ?_
    rintro e w2 ⟨rfl, G2⟩
    replace F1 := F1.trans (G2.mono F1.size)
    clear G2 r1
    go_wp2_with fail
    refine (r2 _ F1).mono ?_
    rintro e w3 ⟨rfl, G3⟩
    replace F1 := F1.trans (G3.mono F1.size)
    clear G3 r2
    go_wp2_with fail
    refine (r3 _ F1).mono ?_
    rintro e w4 ⟨rfl, G4⟩
    replace F1 := F1.trans (G4.mono F1.size)
    clear G4 r3
    go_wp2
    go_ret
    exact ⟨rfl, F1⟩
  | bad E h he =>
    have hh : (t = 0 ∧ k = 1) ∨ (t = 1 ∧ k = 0) := by omega
    have n5 : (E == 0) = false := by rcases he with rfl | rfl <;> rfl
    rcases hh with ⟨rfl, rfl⟩ | ⟨rfl, rfl⟩
    all_goals
      clear h he
      go_enter Tryd.func3, Tryd.ntmps3
      go_wp2_with fail
      refine (awake_any _).mono ?_
      rintro e w1 ⟨rfl, F1⟩
      go_wp2_with fail
      refine (r1 _ F1).mono ?_
      rintro e w2 ⟨rfl, G2⟩
      replace F1 := F1.trans (G2.mono F1.size)
      clear G2 r1
      go_wp2_with fail
      refine (r2 _ F1).mono ?_
      rintro e w3 ⟨rfl, G3⟩
      replace F1 := F1.trans (G3.mono F1.size)
      clear G3 r2
      go_wp2_with fail
      refine (r3 _ F1).mono ?_
      rintro e w4 ⟨rfl, G4⟩
      replace F1 := F1.trans (G4.mono F1.size)
      clear G4 r3
      go_wp2
      go_ret
      exact ⟨rfl, F1⟩
theorem walkFrames {v : Value} (xs : List Fd) (m : Int) (w : World) (hv : FdsAt w v xs) (hl : xs.length ≤ 9223372036854775807) (ho : ∀ y ∈ xs, y.Ok) (hr : Reach xs) (w1 : (Lit.int .i64 m).wf = true) :
    Calls Tryd.prog 3 #[v, .int .i64 m] w fun e w' => e = .returned (.bool true) ∧ Below w.heap.size w w' := by
  by_cases h : 60 < xs.length
  · exact frames_many m hv hl h
  · have b : -9223372036854775808 ≤ m ∧ m ≤ 9223372036854775807 := by
      simpa [Lit.wf, IntKind.min, IntKind.max, IntKind.signed, IntKind.bits] using w1
    exact frames_few m hv (by omega) hr b.1 b.2
end Go.Proofs.YtdimjeajgmlfkabDoor.Fi
