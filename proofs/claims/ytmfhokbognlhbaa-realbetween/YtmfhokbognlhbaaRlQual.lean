/-
  Contracts of real.Quality and mancipleref05.Quality: for every text of at most 2^40 bytes the weight that it is, or ErrForm; nothing that was there is changed.
-/
import Derived.Test.YtmfhokbognlhbaaRlCut
namespace Go.Proofs.Ytmfhokbognlhbaa.Rl
open Go.RowKit Go.PlainAid
open Hx
set_option linter.unusedVariables false

/-- the digits as a whole number: the one ahead of the point, then k behind it -/
def qn (d : Int) (g : Nat → Int) : Nat → Int
  | 0 => d - 48
  | k + 1 => 10 * qn d g k + (g k - 48)
def top (d : Int) : Int := if d = 49 then 48 else 57
def QDig (d : Int) (g : Nat → Int) (k : Nat) : Prop := ∀ j, j < k → 48 ≤ g j ∧ g j ≤ top d
theorem QDig.succ {d : Int} {g : Nat → Int} {k : Nat} (h : QDig d g k) (h0 : 48 ≤ g k) (h1 : g k ≤ top d) : QDig d g (k + 1) := fun j hj => by
  by_cases e : j = k
  · subst e; exact ⟨h0, h1⟩
  · exact h j (by omega)
theorem QDig.zero (d : Int) (g : Nat → Int) : QDig d g 0 := fun _ h => absurd h (Nat.not_lt_zero _)
theorem qn_bd (d : Int) (g : Nat → Int) (hd : d = 48 ∨ d = 49) : ∀ k, QDig d g k → 0 ≤ qn d g k ∧ qn d g k ≤ 10 ^ k ∧ (d = 48 → qn d g k < 10 ^ k)
  | 0, _ => by simp only [qn, Int.pow_zero]; omega
  | k + 1, h => by
    have ih := qn_bd d g hd k (fun j hj => h j (by omega))
    have hk := h k (by omega)
    unfold top at hk
    simp only [qn, Int.pow_succ]
    split at hk <;> omega
theorem pow_bd (k : Nat) (h : k ≤ 3) : (1 : Int) ≤ 10 ^ k ∧ (10 : Int) ^ k ≤ 1000 := by
  have : ∀ k : Fin 4, (1 : Int) ≤ 10 ^ k.val ∧ (10 : Int) ^ k.val ≤ 1000 := by decide
  exact this ⟨k, by omega⟩
theorem pow_bd2 (k : Nat) (h : k < 3) : (10 : Int) ^ k ≤ 100 := by
  have : ∀ k : Fin 3, (10 : Int) ^ k.val ≤ 100 := by decide
  exact this ⟨k, h⟩

def QP (d : Int) (D : ByteArray) (w : World) (e : Ending) (w' : World) : Prop :=
  ((QDig d (bt D) D.size ∧ e = .returned (.tuple #[.float .f64 (rat (qn d (bt D) D.size) (10 ^ D.size)), .int .i64 0])) ∨ (¬ QDig d (bt D) D.size ∧ e = .returned (.tuple #[.float .f64 0, .int .i64 3]))) ∧ Below w.heap.size w w'
def CutIs (s W D : ByteArray) (f : Bool) : Prop := ∀ w, Calls Try.prog 43 #[.string s, .string ⟨#[46]⟩] w fun e w' => e = .returned (.tuple #[.string W, .string D, .bool f]) ∧ Below w.heap.size w w'

theorem quality_bad (s W D : ByteArray) (f : Bool) (w : World) (hc : CutIs s W D f) (h : ((W.toList == [48]) = false ∧ (W.toList == [49]) = false)) :
    Calls Try.prog 24 #[.string s] w fun e w' => e = .returned (.tuple #[.float .f64 0, .int .i64 3]) ∧ Below w.heap.size w w' := by
  obtain ⟨h1, h2⟩ := h
  have c := hc w
  go_enter Try.func24, Try.ntmps24
  go_wp2_with fail
  refine c.mono ?_
  rintro e w1 ⟨rfl, hb⟩
  clear c hc
  go_wp2
  all_goals go_ret2
  all_goals exact ⟨rfl, hb⟩

theorem quality_long48 (s D : ByteArray) (f : Bool) (w : World) (hc : CutIs s ⟨#[48]⟩ D f) (hl : D.size ≤ 1099511627776) (h : 3 < D.size) :
    Calls Try.prog 24 #[.string s] w fun e w' => e = .returned (.tuple #[.float .f64 0, .int .i64 3]) ∧ Below w.heap.size w w' := by
  have c := hc w
  go_enter Try.func24, Try.ntmps24
  go_wp2_with fail
  refine c.mono ?_
  rintro e w1 ⟨rfl, hb⟩
  clear c hc
  go_wp2
  all_goals go_ret2
  all_goals exact ⟨rfl, hb⟩
set_option maxHeartbeats 800000 in
theorem quality_loop48 (s D : ByteArray) (f : Bool) (w : World) (hc : CutIs s ⟨#[48]⟩ D f) (h : D.size ≤ 3) :
    Calls Try.prog 24 #[.string s] w (QP 48 D w) := by
  have c := hc w
  go_enter Try.func24, Try.ntmps24
  go_wp2_with fail
  refine c.mono ?_
  rintro e w1 ⟨rfl, hbel⟩
  clear c hc
  go_wp2
  go_loopw [8, 9, 10] (fun n b i wr => ∃ (k : Nat) (N B : Int), k ≤ D.size ∧ n = .int .i64 N ∧ b = .int .i64 B ∧ i = .int .i64 k ∧ N = qn 48 (bt D) k ∧ B = 10 ^ k ∧ QDig 48 (bt D) k ∧ Below w.heap.size w wr) (fun _ _ i _ => D.size - (intOf i).toNat)
  case atStart => exact ⟨0, _, _, by omega, rfl, rfl, rfl, rfl, rfl, QDig.zero _ _, hbel⟩
  case round =>
    obtain ⟨k, N, B, hk, rfl, rfl, rfl, hN, hB, hq, hbel⟩ := hrel
    have bd := qn_bd 48 (bt D) (by decide) k hq
    have pb := pow_bd k (by omega)
    rw [← hN, ← hB] at bd
    rw [← hB] at pb
    have HN := Lib.hid hN
    have hB' := Lib.hid hB
    have HQ := Lib.hid hq
    clear hN hq
    have hg := get_bt D
    obtain ⟨n0, n1, _⟩ := bd
    obtain ⟨b0, b1⟩ := pb
    by_cases hlt : k < D.size
    · have g0 := bt_nonneg D k
      have g1 := bt_le D k
      have b2 := pow_bd2 k (by omega)
      rw [← hB] at b2
      clear hB
      by_cases c1 : bt D k < 48
      · go_wp2
        go_ret2
        exact ⟨.inr ⟨fun q => by have := (q k hlt).1; omega, rfl⟩, hbel⟩
      · by_cases c2 : 57 < bt D k
        · go_wp2
          go_ret2
          exact ⟨.inr ⟨fun q => by have := (q k hlt).2; unfold top at this; simp at this; omega, rfl⟩, hbel⟩
        · go_wp2
          go_roundw
          case rel => exact ⟨k + 1, _, _, by omega, rfl, rfl, by go_num, by rw [qn, ← HN.out], by rw [Int.pow_succ, ← hB'.out]; omega, HQ.out.succ (by omega) (by unfold top; simp; omega), hbel⟩
          case measure => simp [intOf]; omega
    · obtain rfl : k = D.size := by omega
      have r := ratio_any N B wr (by omega) (by omega) (by omega) (by omega)
      clear hB
      generalize hr : rat N B = z at r
      have Hr := Lib.hid hr
      clear hr
      go_wp2_with fail
      refine r.mono ?_
      rintro e w' ⟨rfl, rfl⟩
      clear r
      go_wp2
      go_ret2
      exact ⟨.inl ⟨HQ.out, by rw [← HN.out, ← hB'.out, Hr.out]; rfl⟩, hbel⟩

theorem quality_long49 (s D : ByteArray) (f : Bool) (w : World) (hc : CutIs s ⟨#[49]⟩ D f) (hl : D.size ≤ 1099511627776) (h : 3 < D.size) :
    Calls Try.prog 24 #[.string s] w fun e w' => e = .returned (.tuple #[.float .f64 0, .int .i64 3]) ∧ Below w.heap.size w w' := by
  have c := hc w
  go_enter Try.func24, Try.ntmps24
  go_wp2_with fail
  refine c.mono ?_
  rintro e w1 ⟨rfl, hb⟩
  clear c hc
  go_wp2
  all_goals go_ret2
  all_goals exact ⟨rfl, hb⟩
set_option maxHeartbeats 800000 in
theorem quality_loop49 (s D : ByteArray) (f : Bool) (w : World) (hc : CutIs s ⟨#[49]⟩ D f) (h : D.size ≤ 3) :
    Calls Try.prog 24 #[.string s] w (QP 49 D w) := by
  have c := hc w
  go_enter Try.func24, Try.ntmps24
  go_wp2_with fail
  refine c.mono ?_
  rintro e w1 ⟨rfl, hbel⟩
  clear c hc
  go_wp2
  go_loopw [8, 9, 10] (fun n b i wr => ∃ (k : Nat) (N B : Int), k ≤ D.size ∧ n = .int .i64 N ∧ b = .int .i64 B ∧ i = .int .i64 k ∧ N = qn 49 (bt D) k ∧ B = 10 ^ k ∧ QDig 49 (bt D) k ∧ Below w.heap.size w wr) (fun _ _ i _ => D.size - (intOf i).toNat)
  case atStart => exact ⟨0, _, _, by omega, rfl, rfl, rfl, rfl, rfl, QDig.zero _ _, hbel⟩
  case round =>
    obtain ⟨k, N, B, hk, rfl, rfl, rfl, hN, hB, hq, hbel⟩ := hrel
    have bd := qn_bd 49 (bt D) (by decide) k hq
    have pb := pow_bd k (by omega)
    rw [← hN, ← hB] at bd
    rw [← hB] at pb
    have HN := Lib.hid hN
    have hB' := Lib.hid hB
    have HQ := Lib.hid hq
    clear hN hq
    have hg := get_bt D
    obtain ⟨n0, n1, _⟩ := bd
    obtain ⟨b0, b1⟩ := pb
    by_cases hlt : k < D.size
    · have g0 := bt_nonneg D k
      have g1 := bt_le D k
      have b2 := pow_bd2 k (by omega)
      rw [← hB] at b2
      clear hB
      by_cases c1 : bt D k < 48
      · go_wp2
        go_ret2
        exact ⟨.inr ⟨fun q => by have := (q k hlt).1; omega, rfl⟩, hbel⟩
      · by_cases c2 : 48 < bt D k
        · go_wp2
          go_ret2
          exact ⟨.inr ⟨fun q => by have := (q k hlt).2; unfold top at this; simp at this; omega, rfl⟩, hbel⟩
        · go_wp2
          go_roundw
          case rel => exact ⟨k + 1, _, _, by omega, rfl, rfl, by go_num, by rw [qn, ← HN.out], by rw [Int.pow_succ, ← hB'.out]; omega, HQ.out.succ (by omega) (by unfold top; simp; omega), hbel⟩
          case measure => simp [intOf]; omega
    · obtain rfl : k = D.size := by omega
      have r := ratio_any N B wr (by omega) (by omega) (by omega) (by omega)
      clear hB
      generalize hr : rat N B = z at r
      have Hr := Lib.hid hr
      clear hr
      go_wp2_with fail
      refine r.mono ?_
      rintro e w' ⟨rfl, rfl⟩
      clear r
      go_wp2
      go_ret2
      exact ⟨.inl ⟨HQ.out, by rw [← HN.out, ← hB'.out, Hr.out]; rfl⟩, hbel⟩
end Go.Proofs.Ytmfhokbognlhbaa.Rl
