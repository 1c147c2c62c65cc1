/-
  Contract of mancipleref05.Quality: as real.Quality's; weights are numbers from 0 to 1.
-/
import Derived.Test.YtmfhokbognlhbaaRlQual2
namespace Go.Proofs.Ytmfhokbognlhbaa.Rl
open Go.RowKit Go.PlainAid
open Hx
set_option linter.unusedVariables false

/-- what is asked of each weight, one by one -/
def fine (b n : Nat) : Bool := decide (rat n b = quo n b) && decide (rat n b < 18446744073709551616) && !(FloatKind.f64.format.order (rat n b) 0 == some .lt) && !(FloatKind.f64.format.order (rat n b) 4607182418800017408 == some .gt)
def allTo (b : Nat) : Nat → Bool
  | 0 => fine b 0
  | n + 1 => fine b (n + 1) && allTo b n
theorem allTo_fine (b : Nat) : ∀ m n, n ≤ m → allTo b m = true → fine b n = true
  | 0, n, h, a => by obtain rfl : n = 0 := by omega
                     exact a
  | m + 1, n, h, a => by
    simp only [allTo, Bool.and_eq_true] at a
    by_cases e : n = m + 1
    · subst e; exact a.1
    · exact allTo_fine b m n (by omega) a.2
set_option maxRecDepth 100000 in
theorem all_one : allTo 1 1 = true := by decide +kernel
set_option maxRecDepth 100000 in
theorem all_ten : allTo 10 10 = true := by decide +kernel
set_option maxRecDepth 100000 in
theorem all_hundred : allTo 100 100 = true := by decide +kernel
set_option maxRecDepth 100000 in
theorem all_thousand : allTo 1000 1000 = true := by decide +kernel

theorem refq_bad (s : ByteArray) (w : World) (hs : s.size ≤ 1099511627776) (h : ¬ (1 ≤ s.size ∧ s.size ≤ 5 ∧ (bt s 0 = 48 ∨ bt s 0 = 49) ∧ (1 < s.size → bt s 1 = 46))) :
    Calls Try.prog 25 #[.string s] w fun e w' => e = .returned (.tuple #[.float .f64 0, .int .i64 3]) ∧ Below w.heap.size w w' := by
  have hb := get_bt s
  by_cases c0 : s.size = 0
  · clear h
    go_enter Try.func25, Try.ntmps25
    go_wp2
    all_goals go_ret2
    all_goals exact ⟨rfl, Below.refl _ _⟩
  have d0 : (1 : Int) ≤ (s.size : Int) := by omega
  by_cases c1 : 5 < s.size
  · have d1 : (5 : Int) < (s.size : Int) := by omega
    clear h
    go_enter Try.func25, Try.ntmps25
    go_wp2
    all_goals go_ret2
    all_goals exact ⟨rfl, Below.refl _ _⟩
  have d1 : ¬ (5 : Int) < (s.size : Int) := by omega
  by_cases c2 : bt s 0 = 48 ∨ bt s 0 = 49
  · have c3 : 1 < s.size ∧ bt s 1 ≠ 46 := by
      refine ⟨?_, ?_⟩
      · apply Nat.lt_of_not_le; intro hh; exact h ⟨by omega, by omega, c2, fun h' => by omega⟩
      · intro hh; exact h ⟨by omega, by omega, c2, fun _ => hh⟩
    have c4 : (bt s 1 != 46) = true := by rw [bne_iff_ne]; exact c3.2
    have c5 : (1 : Int) < (s.size : Int) := by omega
    clear h c3 c0 c1
    rcases c2 with c2 | c2
    · have f0 : (bt s 0 != 48) = false := by rw [c2]; rfl
      clear c2
      go_enter Try.func25, Try.ntmps25
      go_wp2
      all_goals go_ret2
      all_goals exact ⟨rfl, Below.refl _ _⟩
    · have f0 : (bt s 0 != 48) = true := by rw [c2]; rfl
      have f1 : (bt s 0 != 49) = false := by rw [c2]; rfl
      clear c2
      go_enter Try.func25, Try.ntmps25
      go_wp2
      all_goals go_ret2
      all_goals exact ⟨rfl, Below.refl _ _⟩
  · have f0 : (bt s 0 != 48) = true := by rw [bne_iff_ne]; omega
    have f1 : (bt s 0 != 49) = true := by rw [bne_iff_ne]; omega
    clear h c2 c0 c1
    go_enter Try.func25, Try.ntmps25
    go_wp2
    all_goals go_ret2
    all_goals exact ⟨rfl, Below.refl _ _⟩

/-- as QPost, with the quotient as it is -/
def QRef (s : ByteArray) (w : World) (e : Ending) (w' : World) : Prop :=
  ((QDig (bt s 0) (fun k => bt s (k + 2)) (s.size - 2) ∧ e = .returned (.tuple #[.float .f64 (quo (qN s) (10 ^ (s.size - 2))), .int .i64 0])) ∨ (¬ QDig (bt s 0) (fun k => bt s (k + 2)) (s.size - 2) ∧ e = .returned (.tuple #[.float .f64 0, .int .i64 3]))) ∧ Below w.heap.size w w'
theorem pow_any (k : Nat) (h : k ≤ 3) : (10 : Int) ^ k ≠ 0 := by
  have := pow_bd k h; omega

set_option maxHeartbeats 1600000 in
theorem refq48b (s : ByteArray) (w : World) (h1 : 1 < s.size) (h46 : bt s 1 = 46) (h5 : s.size ≤ 5) (h0 : bt s 0 = 48) : Calls Try.prog 25 #[.string s] w (QRef s w) := by
  have hb := get_bt s
  have d0 : (1 : Int) < (s.size : Int) := by omega
  have d1 : ¬ (5 : Int) < (s.size : Int) := by omega
  have f2 : (bt s 1 != 46) = false := by rw [h46]; rfl
  clear h46
  have f0 : (bt s 0 != 48) = false := by rw [h0]; rfl
  have f3 : (bt s 0 == 49) = false := by rw [h0]; rfl
  have f4 : (bt s 0 - 48) % 256 = 0 := by rw [h0]; rfl
  have H0 := Lib.hid h0
  clear h0
  go_enter Try.func25, Try.ntmps25
  go_wp2
  go_loopw [4, 5, 6] (fun n b i wr => ∃ (k : Nat) (N B : Int), k ≤ s.size - 2 ∧ n = .int .i64 N ∧ b = .int .i64 B ∧ i = .int .i64 ((k : Int) + 2) ∧ N = qn 48 (fun k => bt s (k + 2)) k ∧ B = 10 ^ k ∧ QDig 48 (fun k => bt s (k + 2)) k ∧ Below w.heap.size w wr) (fun _ _ i _ => s.size - (intOf i).toNat)
  case atStart => exact ⟨0, _, _, by omega, rfl, rfl, rfl, rfl, rfl, QDig.zero _ _, Below.refl _ _⟩
  case round =>
    obtain ⟨k, N, B, hk, rfl, rfl, rfl, hN, hB, hq, hbel⟩ := hrel
    have bd := qn_bd 48 (fun k => bt s (k + 2)) (by decide) k hq
    have pb := pow_bd k (by omega)
    rw [← hN, ← hB] at bd
    rw [← hB] at pb
    have HN := Lib.hid hN
    have HB := Lib.hid hB
    have HQ := Lib.hid hq
    obtain ⟨n0, n1, _⟩ := bd
    obtain ⟨b0, b1⟩ := pb
    clear hN hq
    by_cases hlt : k + 2 < s.size
    · have g0 := bt_nonneg s (k + 2)
      have g1 := bt_le s (k + 2)
      have b2 := pow_bd2 k (by omega)
      rw [← hB] at b2
      clear hB
      have j1 : (k : Int) + 2 < (s.size : Int) := by omega
      by_cases c1 : bt s (k + 2) < 48
      · go_wp2
        go_ret2
        exact ⟨.inr ⟨fun q => by have h' : 48 ≤ bt s (k + 2) := (q k (by omega)).1; omega, rfl⟩, hbel⟩
      · by_cases c2 : 57 < bt s (k + 2)
        · go_wp2
          go_ret2
          exact ⟨.inr ⟨fun q => by have h' : bt s (k + 2) ≤ top (bt s 0) := (q k (by omega)).2; rw [H0.out] at h'; unfold top at h'; simp at h'; omega, rfl⟩, hbel⟩
        · go_wp2
          go_roundw
          case rel => exact ⟨k + 1, _, _, by omega, rfl, rfl, by go_num, by rw [qn, ← HN.out]; omega, by rw [Int.pow_succ, ← HB.out], HQ.out.succ (by omega) (by unfold top; simp; omega), hbel⟩
          case measure => simp [intOf]; omega
    · have ek : k = s.size - 2 := by omega
      obtain ⟨q1, q2⟩ := quo_some N B (by omega) (by omega) (by omega) (by omega) (by omega)
      have hq : ∀ t w, (binOp .quo t (.float .f64 (floatOfInt .f64 N)) (.float .f64 (floatOfInt .f64 B))).run Try.prog w = .ok (.float .f64 (quo N B)) w := fun t w => run_float_arith w .quo t .f64 _ _ _ q1
      clear hB q1 q2
      have EK := Lib.hid ek
      clear ek
      generalize hr : quo N B = z at hq
      have Hr := Lib.hid hr
      clear hr
      go_wp2_with (simp only [hq])
      go_ret2
      refine ⟨.inl ⟨?_, ?_⟩, hbel⟩
      · rw [← EK.out, H0.out]; exact HQ.out
      · unfold qN; rw [← EK.out, H0.out, ← HN.out, ← HB.out, Hr.out]; rfl

set_option maxHeartbeats 1600000 in
theorem refq48a (s : ByteArray) (w : World) (h1 : s.size = 1) (h5 : s.size ≤ 5) (h0 : bt s 0 = 48) : Calls Try.prog 25 #[.string s] w (QRef s w) := by
  have hb := get_bt s
  have d0 : (s.size : Int) = 1 := by omega
  have f0 : (bt s 0 != 48) = false := by rw [h0]; rfl
  have f3 : (bt s 0 == 49) = false := by rw [h0]; rfl
  have f4 : (bt s 0 - 48) % 256 = 0 := by rw [h0]; rfl
  have H0 := Lib.hid h0
  clear h0
  go_enter Try.func25, Try.ntmps25
  go_wp2
  go_loopw [4, 5, 6] (fun n b i wr => ∃ (k : Nat) (N B : Int), k ≤ s.size - 2 ∧ n = .int .i64 N ∧ b = .int .i64 B ∧ i = .int .i64 ((k : Int) + 2) ∧ N = qn 48 (fun k => bt s (k + 2)) k ∧ B = 10 ^ k ∧ QDig 48 (fun k => bt s (k + 2)) k ∧ Below w.heap.size w wr) (fun _ _ i _ => s.size - (intOf i).toNat)
  case atStart => exact ⟨0, _, _, by omega, rfl, rfl, rfl, rfl, rfl, QDig.zero _ _, Below.refl _ _⟩
  case round =>
    obtain ⟨k, N, B, hk, rfl, rfl, rfl, hN, hB, hq, hbel⟩ := hrel
    have bd := qn_bd 48 (fun k => bt s (k + 2)) (by decide) k hq
    have pb := pow_bd k (by omega)
    rw [← hN, ← hB] at bd
    rw [← hB] at pb
    have HN := Lib.hid hN
    have HB := Lib.hid hB
    have HQ := Lib.hid hq
    obtain ⟨n0, n1, _⟩ := bd
    obtain ⟨b0, b1⟩ := pb
    clear hN hq
    by_cases hlt : k + 2 < s.size
    · exact absurd hlt (by omega)
    · have ek : k = s.size - 2 := by omega
      obtain ⟨q1, q2⟩ := quo_some N B (by omega) (by omega) (by omega) (by omega) (by omega)
      have hq : ∀ t w, (binOp .quo t (.float .f64 (floatOfInt .f64 N)) (.float .f64 (floatOfInt .f64 B))).run Try.prog w = .ok (.float .f64 (quo N B)) w := fun t w => run_float_arith w .quo t .f64 _ _ _ q1
      clear hB q1 q2
      have EK := Lib.hid ek
      clear ek
      generalize hr : quo N B = z at hq
      have Hr := Lib.hid hr
      clear hr
      go_wp2_with (simp only [hq])
      go_ret2
      refine ⟨.inl ⟨?_, ?_⟩, hbel⟩
      · rw [← EK.out, H0.out]; exact HQ.out
      · unfold qN; rw [← EK.out, H0.out, ← HN.out, ← HB.out, Hr.out]; rfl

set_option maxHeartbeats 1600000 in
theorem refq49b (s : ByteArray) (w : World) (h1 : 1 < s.size) (h46 : bt s 1 = 46) (h5 : s.size ≤ 5) (h0 : bt s 0 = 49) : Calls Try.prog 25 #[.string s] w (QRef s w) := by
  have hb := get_bt s
  have d0 : (1 : Int) < (s.size : Int) := by omega
  have d1 : ¬ (5 : Int) < (s.size : Int) := by omega
  have f2 : (bt s 1 != 46) = false := by rw [h46]; rfl
  clear h46
  have f0 : (bt s 0 != 48) = true := by rw [h0]; rfl
  have f1 : (bt s 0 != 49) = false := by rw [h0]; rfl
  have f3 : (bt s 0 == 49) = true := by rw [h0]; rfl
  have f4 : (bt s 0 - 48) % 256 = 1 := by rw [h0]; rfl
  have H0 := Lib.hid h0
  clear h0
  go_enter Try.func25, Try.ntmps25
  go_wp2
  go_loopw [4, 5, 6] (fun n b i wr => ∃ (k : Nat) (N B : Int), k ≤ s.size - 2 ∧ n = .int .i64 N ∧ b = .int .i64 B ∧ i = .int .i64 ((k : Int) + 2) ∧ N = qn 49 (fun k => bt s (k + 2)) k ∧ B = 10 ^ k ∧ QDig 49 (fun k => bt s (k + 2)) k ∧ Below w.heap.size w wr) (fun _ _ i _ => s.size - (intOf i).toNat)
  case atStart => exact ⟨0, _, _, by omega, rfl, rfl, rfl, rfl, rfl, QDig.zero _ _, Below.refl _ _⟩
  case round =>
    obtain ⟨k, N, B, hk, rfl, rfl, rfl, hN, hB, hq, hbel⟩ := hrel
    have bd := qn_bd 49 (fun k => bt s (k + 2)) (by decide) k hq
    have pb := pow_bd k (by omega)
    rw [← hN, ← hB] at bd
    rw [← hB] at pb
    have HN := Lib.hid hN
    have HB := Lib.hid hB
    have HQ := Lib.hid hq
    obtain ⟨n0, n1, _⟩ := bd
    obtain ⟨b0, b1⟩ := pb
    clear hN hq
    by_cases hlt : k + 2 < s.size
    · have g0 := bt_nonneg s (k + 2)
      have g1 := bt_le s (k + 2)
      have b2 := pow_bd2 k (by omega)
      rw [← hB] at b2
      clear hB
      have j1 : (k : Int) + 2 < (s.size : Int) := by omega
      by_cases c1 : bt s (k + 2) < 48
      · go_wp2
        go_ret2
        exact ⟨.inr ⟨fun q => by have h' : 48 ≤ bt s (k + 2) := (q k (by omega)).1; omega, rfl⟩, hbel⟩
      · by_cases c2 : 57 < bt s (k + 2)
        · go_wp2
          go_ret2
          exact ⟨.inr ⟨fun q => by have h' : bt s (k + 2) ≤ top (bt s 0) := (q k (by omega)).2; rw [H0.out] at h'; unfold top at h'; simp at h'; omega, rfl⟩, hbel⟩
        by_cases c3 : 48 < bt s (k + 2)
        · have c4 : (bt s (k + 2) != 48) = true := by rw [bne_iff_ne]; omega
          go_wp2
          go_ret2
          exact ⟨.inr ⟨fun q => by have h' : bt s (k + 2) ≤ top (bt s 0) := (q k (by omega)).2; rw [H0.out] at h'; unfold top at h'; simp at h'; omega, rfl⟩, hbel⟩
        have c4 : (bt s (k + 2) != 48) = false := by rw [bne_eq_false_iff_eq]; omega
        go_wp2
        go_roundw
        case rel => exact ⟨k + 1, _, _, by omega, rfl, rfl, by go_num, by rw [qn, ← HN.out]; omega, by rw [Int.pow_succ, ← HB.out], HQ.out.succ (by omega) (by unfold top; simp; omega), hbel⟩
        case measure => simp [intOf]; omega
    · have ek : k = s.size - 2 := by omega
      obtain ⟨q1, q2⟩ := quo_some N B (by omega) (by omega) (by omega) (by omega) (by omega)
      have hq : ∀ t w, (binOp .quo t (.float .f64 (floatOfInt .f64 N)) (.float .f64 (floatOfInt .f64 B))).run Try.prog w = .ok (.float .f64 (quo N B)) w := fun t w => run_float_arith w .quo t .f64 _ _ _ q1
      clear hB q1 q2
      have EK := Lib.hid ek
      clear ek
      generalize hr : quo N B = z at hq
      have Hr := Lib.hid hr
      clear hr
      go_wp2_with (simp only [hq])
      go_ret2
      refine ⟨.inl ⟨?_, ?_⟩, hbel⟩
      · rw [← EK.out, H0.out]; exact HQ.out
      · unfold qN; rw [← EK.out, H0.out, ← HN.out, ← HB.out, Hr.out]; rfl

set_option maxHeartbeats 1600000 in
theorem refq49a (s : ByteArray) (w : World) (h1 : s.size = 1) (h5 : s.size ≤ 5) (h0 : bt s 0 = 49) : Calls Try.prog 25 #[.string s] w (QRef s w) := by
  have hb := get_bt s
  have d0 : (s.size : Int) = 1 := by omega
  have f0 : (bt s 0 != 48) = true := by rw [h0]; rfl
  have f1 : (bt s 0 != 49) = false := by rw [h0]; rfl
  have f3 : (bt s 0 == 49) = true := by rw [h0]; rfl
  have f4 : (bt s 0 - 48) % 256 = 1 := by rw [h0]; rfl
  have H0 := Lib.hid h0
  clear h0
  go_enter Try.func25, Try.ntmps25
  go_wp2
  go_loopw [4, 5, 6] (fun n b i wr => ∃ (k : Nat) (N B : Int), k ≤ s.size - 2 ∧ n = .int .i64 N ∧ b = .int .i64 B ∧ i = .int .i64 ((k : Int) + 2) ∧ N = qn 49 (fun k => bt s (k + 2)) k ∧ B = 10 ^ k ∧ QDig 49 (fun k => bt s (k + 2)) k ∧ Below w.heap.size w wr) (fun _ _ i _ => s.size - (intOf i).toNat)
  case atStart => exact ⟨0, _, _, by omega, rfl, rfl, rfl, rfl, rfl, QDig.zero _ _, Below.refl _ _⟩
  case round =>
    obtain ⟨k, N, B, hk, rfl, rfl, rfl, hN, hB, hq, hbel⟩ := hrel
    have bd := qn_bd 49 (fun k => bt s (k + 2)) (by decide) k hq
    have pb := pow_bd k (by omega)
    rw [← hN, ← hB] at bd
    rw [← hB] at pb
    have HN := Lib.hid hN
    have HB := Lib.hid hB
    have HQ := Lib.hid hq
    obtain ⟨n0, n1, _⟩ := bd
    obtain ⟨b0, b1⟩ := pb
    clear hN hq
    by_cases hlt : k + 2 < s.size
    · exact absurd hlt (by omega)
    · have ek : k = s.size - 2 := by omega
      obtain ⟨q1, q2⟩ := quo_some N B (by omega) (by omega) (by omega) (by omega) (by omega)
      have hq : ∀ t w, (binOp .quo t (.float .f64 (floatOfInt .f64 N)) (.float .f64 (floatOfInt .f64 B))).run Try.prog w = .ok (.float .f64 (quo N B)) w := fun t w => run_float_arith w .quo t .f64 _ _ _ q1
      clear hB q1 q2
      have EK := Lib.hid ek
      clear ek
      generalize hr : quo N B = z at hq
      have Hr := Lib.hid hr
      clear hr
      go_wp2_with (simp only [hq])
      go_ret2
      refine ⟨.inl ⟨?_, ?_⟩, hbel⟩
      · rw [← EK.out, H0.out]; exact HQ.out
      · unfold qN; rw [← EK.out, H0.out, ← HN.out, ← HB.out, Hr.out]; rfl

theorem fine_of (k : Nat) (n : Int) (hk : k ≤ 3) (h0 : 0 ≤ n) (h1 : n ≤ 10 ^ k) : rat n (10 ^ k) = quo n (10 ^ k) ∧ rat n (10 ^ k) < 18446744073709551616 ∧ (FloatKind.f64.format.order (rat n (10 ^ k)) 0 == some .lt) = false ∧ (FloatKind.f64.format.order (rat n (10 ^ k)) 4607182418800017408 == some .gt) = false := by
  have key : ∀ b m : Nat, fine b m = true → rat m b = quo m b ∧ rat m b < 18446744073709551616 ∧ (FloatKind.f64.format.order (rat m b) 0 == some .lt) = false ∧ (FloatKind.f64.format.order (rat m b) 4607182418800017408 == some .gt) = false := by
    intro b m h
    unfold fine at h
    simp only [Bool.and_eq_true, decide_eq_true_eq, Bool.not_eq_true'] at h
    exact ⟨h.1.1.1, h.1.1.2, h.1.2, h.2⟩
  obtain ⟨m, rfl⟩ := Int.eq_ofNat_of_zero_le h0
  have c : k = 0 ∨ k = 1 ∨ k = 2 ∨ k = 3 := by omega
  rcases c with rfl | rfl | rfl | rfl
  · exact key 1 m (allTo_fine 1 1 m (by simp at h1; omega) all_one)
  · exact key 10 m (allTo_fine 10 10 m (by simp at h1; omega) all_ten)
  · exact key 100 m (allTo_fine 100 100 m (by simp at h1; omega) all_hundred)
  · exact key 1000 m (allTo_fine 1000 1000 m (by simp at h1; omega) all_thousand)
theorem qN_bd (s : ByteArray) (h : QForm s) : 0 ≤ qN s ∧ qN s ≤ 10 ^ (s.size - 2) ∧ s.size - 2 ≤ 3 := by
  obtain ⟨h1, h2, h3, h4, h5⟩ := h
  have := qn_bd _ _ h3 _ h5
  exact ⟨this.1, this.2.1, by omega⟩
theorem weight_fine (s : ByteArray) (h : QForm s) : rat (qN s) (10 ^ (s.size - 2)) = quo (qN s) (10 ^ (s.size - 2)) ∧ rat (qN s) (10 ^ (s.size - 2)) < 18446744073709551616 ∧ (FloatKind.f64.format.order (rat (qN s) (10 ^ (s.size - 2))) 0 == some .lt) = false ∧ (FloatKind.f64.format.order (rat (qN s) (10 ^ (s.size - 2))) 4607182418800017408 == some .gt) = false := by
  obtain ⟨a, b, c⟩ := qN_bd s h
  exact fine_of _ _ c a b
theorem refquality_any (s : ByteArray) (w : World) (hs : s.size ≤ 1099511627776) : Calls Try.prog 25 #[.string s] w (QPost s w) := by
  by_cases h : 1 ≤ s.size ∧ s.size ≤ 5 ∧ (bt s 0 = 48 ∨ bt s 0 = 49) ∧ (1 < s.size → bt s 1 = 46)
  · have key : ∀ e w', QRef s w e w' → QPost s w e w' := by
      rintro e w' ⟨q, hb⟩
      refine ⟨?_, hb⟩
      obtain ⟨h1, h2, h3, h4⟩ := h
      rcases q with ⟨q1, q2⟩ | ⟨q1, q2⟩
      · have f : QForm s := ⟨h1, h2, h3, h4, q1⟩
        exact .inl ⟨f, by rw [(weight_fine s f).1]; exact q2⟩
      · exact .inr ⟨fun f => q1 f.2.2.2.2, q2⟩
    obtain ⟨h1, h2, h3, h4⟩ := h
    by_cases c : s.size = 1
    · rcases h3 with h3 | h3
      · exact (refq48a s w c h2 h3).mono key
      · exact (refq49a s w c h2 h3).mono key
    · rcases h3 with h3 | h3
      · exact (refq48b s w (by omega) (h4 (by omega)) h2 h3).mono key
      · exact (refq49b s w (by omega) (h4 (by omega)) h2 h3).mono key
  · exact (refq_bad s w hs h).mono fun e w' ⟨he, hb⟩ => ⟨.inr ⟨fun f => h ⟨f.1, f.2.1, f.2.2.1, f.2.2.2.1⟩, he⟩, hb⟩
end Go.Proofs.Ytmfhokbognlhbaa.Rl
