/-
  RealBack is true for every two numbers and every text: a number's text is its own. No conditions.
-/
import Derived.Test.YtmfhokbognlhbaaRlParse
import Derived.Test.YtmfhokbognlhbaaRlMix
import Derived.ProofKit
import Derived.OpenShut
import Derived.ShutString
namespace Go.Proofs.Ytmfhokbognlhbaa.realBack
open Go.ChangeShapes Go.WideShapes Go.ChangeAt Go.RowKit Go.PlainAid Go.Proofs.Ytmfhokbognlhbaa.Rl
open Go.ChangeMaps (open_string shut_string)
open Go.Proofs.Ytmfhokbognlhbaa.Hx (hexL UnForm hexL_form hexL_len unTo_back size_mk get_len mk_data)
set_option linter.unusedVariables false

theorem lt_of {a : Nat} (h : (Lit.float .f64 a).wf = true) : a < 18446744073709551616 := by
  simp only [Lit.wf, decide_eq_true_eq] at h
  exact h
/-- what a number's text is read as -/
def nx (x : Nat) : Nat := if isN x then 9221120237041090560 else x
theorem nx_lt (x : Nat) (hx : x < 18446744073709551616) : nx x < 18446744073709551616 := by unfold nx; split <;> omega
theorem nx_place (x : Nat) : place (nx x) = place x := by
  unfold nx
  split
  · next h =>
    unfold isN at h
    rw [of_decide_eq_true h]; decide
  · rfl
theorem xv_hex (x : Nat) (hx : x < 18446744073709551616) : xv ⟨(hexL (bl 8 x)).toArray⟩ = x := by
  have h := bl_xv ⟨(hexL (bl 8 x)).toArray⟩
  have e := unTo_back (bl 8 x)
  rw [size_mk, hexL_len, bl_len] at e
  rw [show (2 * 8 / 2 : Nat) = 8 by decide] at e
  rw [e] at h
  exact bl_inj 8 _ _ (xv_lt _) hx h
theorem not16 {s : ByteArray} (h : s.size = 16) : ¬ s.data.toList = [110, 97, 110] ∧ ¬ s.data.toList = [45, 105, 110, 102] ∧ ¬ s.data.toList = [105, 110, 102] := by
  have key : ∀ l : List UInt8, l.length ≠ 16 → ¬ s.data.toList = l := fun l hl e => hl (by rw [← e, get_len, h])
  exact ⟨key _ (by decide), key _ (by decide), key _ (by decide)⟩
theorem inf_bits (x : Nat) (hx : x < 18446744073709551616) (h : cls (place x) = 7) : x = 9218868437227405312 := by
  have r := rg_lt x
  have b := cls_of _ (place_range x hx)
  unfold place at *
  unfold rg at *
  (repeat' split at *) <;> omega
theorem below_bits (x : Nat) (hx : x < 18446744073709551616) (h : cls (place x) = 2) : x = 18442240474082181120 := by
  have r := rg_lt x
  have b := cls_of _ (place_range x hx)
  unfold place at *
  unfold rg at *
  (repeat' split at *) <;> omega
theorem back (x : Nat) (hx : x < 18446744073709551616) : PForm (prt x) ∧ pv (prt x) = nx x := by
  have n := isN_cls x hx
  cases c : edg x with
  | false =>
    have h' : ¬ (cls (place x) = 1 ∨ cls (place x) = 2 ∨ cls (place x) = 7) := fun h => by rw [(edg_cls x hx).2 h] at c; cases c
    have hz : (⟨(hexL (bl 8 x)).toArray⟩ : ByteArray).size = 16 := by rw [size_mk, hexL_len, bl_len]
    have e : nx x = x := by unfold nx; rw [n, decide_eq_false (by omega)]; rfl
    rw [prt_num x hx c, e]
    obtain ⟨n1, n2, n3⟩ := not16 hz
    refine ⟨.inr (.inr (.inr ⟨hz, hexL_form _, ?_⟩)), ?_⟩
    · rw [xv_hex x hx]; exact c
    · unfold pv
      rw [if_neg n1, if_neg n2, if_neg n3, xv_hex x hx]
  | true =>
    have h' := (edg_cls x hx).1 c
    rcases h' with h | h | h
    · have e1 : prt x = ⟨#[110, 97, 110]⟩ := by unfold prt; rw [if_pos h]
      rw [e1]
      refine ⟨.inl rfl, ?_⟩
      unfold nx; rw [n, decide_eq_true h]; rfl
    · have e1 : prt x = ⟨#[45, 105, 110, 102]⟩ := by unfold prt; rw [if_neg (by omega), if_pos h]
      rw [e1]
      refine ⟨.inr (.inl rfl), ?_⟩
      unfold nx; rw [n, decide_eq_false (by omega), below_bits x hx h]; rfl
    · have e1 : prt x = ⟨#[105, 110, 102]⟩ := by unfold prt; rw [if_neg (by omega), if_neg (by omega), if_pos h]
      rw [e1]
      refine ⟨.inr (.inr (.inl rfl)), ?_⟩
      unfold nx; rw [n, decide_eq_false (by omega), inf_bits x hx h]; rfl
theorem place_inj (x y : Nat) (hx : x < 18446744073709551616) (hy : y < 18446744073709551616) (h : place x = place y) : prt x = prt y := by
  by_cases c : cls (place x) = 1
  · unfold prt; rw [if_pos c, if_pos (by rw [← h]; exact c)]
  · have : x = y := by
      have a := cls_of _ (place_range x hx)
      have r := rg_lt x
      have r' := rg_lt y
      unfold place at *
      unfold rg at *
      (repeat' split at *) <;> omega
    rw [this]
theorem texts (x y : Nat) (hx : x < 18446744073709551616) (hy : y < 18446744073709551616) : ((prt x).toList == (prt y).toList) = eq x y := by
  unfold eq
  by_cases h : place x = place y
  · rw [decide_eq_true h, place_inj x y hx hy h]; simp
  · rw [decide_eq_false h, beq_eq_false_iff_ne, ByteArray.toList_eq, ByteArray.toList_eq]
    intro e
    apply h
    have e' : prt x = prt y := by
      have := ba_list e
      rw [this]
    have := (back x hx).2
    rw [e', (back y hy).2] at this
    rw [← nx_place x, ← nx_place y, this]
theorem again (s : ByteArray) (h : PForm s) : prt (pv s) = s := by
  rcases h with rfl | rfl | rfl | ⟨h1, h2, h3⟩
  · kernel_rfl
  · kernel_rfl
  · kernel_rfl
  · obtain ⟨n1, n2, n3⟩ := not16 h1
    have : pv s = xv s := by unfold pv; rw [if_neg n1, if_neg n2, if_neg n3]
    rw [this, prt_xv s h1 h2 h3]
theorem prt_size (x : Nat) : (prt x).size ≤ 16 := by
  unfold prt
  (repeat' split) <;> first | decide | (rw [size_mk, hexL_len, bl_len]; omega)
theorem parse_back (x : Nat) (hx : x < 18446744073709551616) (w : World) : Calls Try.prog 22 #[.string (prt x)] w fun e w' => e = .returned (.tuple #[.float .f64 (nx x), .int .i64 0]) ∧ Below w.heap.size w w' := by
  have hz := prt_size x
  obtain ⟨b1, b2⟩ := back x hx
  refine (parse_any (prt x) w (by omega)).mono fun e w' ⟨q, hb⟩ => ⟨?_, hb⟩
  rw [← b2]
  exact q.elim (fun x => x.2) (fun x => absurd b1 x.1)
/-- what is read of a text: its number, of which the text is written again; or nothing -/
theorem parse_one (s : ByteArray) (hs : s.size ≤ 60) : (∃ p : Nat, p < 18446744073709551616 ∧ prt p = s ∧ (∀ w, Calls Try.prog 22 #[.string s] w fun e w' => e = .returned (.tuple #[.float .f64 p, .int .i64 0]) ∧ Below w.heap.size w w')) ∨
    (∀ w, Calls Try.prog 22 #[.string s] w fun e w' => e = .returned (.tuple #[.float .f64 0, .int .i64 3]) ∧ Below w.heap.size w w') := by
  have hl : pv s < 18446744073709551616 := by
    have := xv_lt s
    unfold pv; (repeat' split) <;> omega
  by_cases h : PForm s
  · exact .inl ⟨pv s, hl, again s h, fun w => (parse_any s w (by omega)).mono fun e w' ⟨q, hb⟩ => ⟨q.elim (fun x => x.2) (fun x => absurd h x.1), hb⟩⟩
  · exact .inr fun w => (parse_any s w (by omega)).mono fun e w' ⟨q, hb⟩ => ⟨q.elim (fun x => absurd x.1 h) (fun x => x.2), hb⟩

theorem long (x y : Nat) (s : ByteArray) (w : World) (hs : s.size ≤ maxLen) (h : 60 < s.size) :
    Calls Try.prog 6 #[.float .f64 x, .float .f64 y, .string s] w fun e w' => e = .returned (.bool true) ∧ Below w.heap.size w w' := by
  have hs' : (s.size : Int) ≤ 9223372036854775807 := by unfold maxLen at hs; omega
  go_enter Try.func6, Try.ntmps6
  go_wp2_with fail
  refine (awake_any _).mono ?_
  rintro e w1 ⟨rfl, hb1⟩
  go_wp2
  all_goals go_ret
  all_goals exact ⟨rfl, hb1⟩
set_option maxHeartbeats 4000000 in
theorem nan_ok (x y : Nat) (s : ByteArray) (w : World) (hs : s.size ≤ 60) (hx : x < 18446744073709551616) (hy : y < 18446744073709551616) (hn : isN x = true) (p : Nat) (hp : p < 18446744073709551616) (ep : prt p = s) (P2 : ∀ w, Calls Try.prog 22 #[.string s] w fun e w' => e = .returned (.tuple #[.float .f64 p, .int .i64 0]) ∧ Below w.heap.size w w') :
    Calls Try.prog 6 #[.float .f64 x, .float .f64 y, .string s] w fun e w' => e = .returned (.bool true) ∧ Below w.heap.size w w' := by
  have T1 := fun w => print_any x w hx
  have T2 := fun w => print_any y w hy
  have P1 := parse_back x hx
  have S1 := fun w => same_any (nx x) x w (nx_lt x hx) hx
  have S2 := fun w => same_any x y w hx hy
  have I := fun w => isNaN_any x w hx
  have r1 := run_bits
  simp only [show eq (nx x) x = true from decide_eq_true (nx_place x)] at S1
  simp only [hn] at I
  have tx := texts x y hx hy
  have T3 := fun w => print_any p w hp
  rw [ep] at T3
  have es : (s.toList == s.toList) = true := by simp
  generalize eq x y = q at *
  generalize prt x = tx1 at *
  generalize prt y = ty1 at *
  generalize nx x = z at *
  have qq : (q != q) = false := by simp
  clear hx hy hn hp ep
  go_enter Try.func6, Try.ntmps6
  go_wp2_with fail
  refine (awake_any _).mono ?_
  rintro e w1 ⟨rfl, hb1⟩
  go_wp2_with fail
  refine (T1 _).mono ?_
  rintro e w2 ⟨rfl, hb⟩
  replace hb := hb1.trans (hb.mono hb1.size)
  clear hb1
  have hb1 := hb
  clear hb
  go_wp2_with fail
  refine (P1 _).mono ?_
  rintro e w3 ⟨rfl, hb⟩
  replace hb := hb1.trans (hb.mono hb1.size)
  clear hb1
  have hb1 := hb
  clear hb
  go_wp2_with fail
  refine (P2 _).mono ?_
  rintro e w4 ⟨rfl, hb⟩
  replace hb := hb1.trans (hb.mono hb1.size)
  clear hb1
  have hb1 := hb
  clear hb
  go_wp2_with fail
  refine (S1 _).mono ?_
  rintro e w' ⟨rfl, rfl⟩
  go_wp2_with fail
  refine (T1 _).mono ?_
  rintro e w6 ⟨rfl, hb⟩
  replace hb := hb1.trans (hb.mono hb1.size)
  clear hb1
  have hb1 := hb
  clear hb
  go_wp2_with fail
  refine (T2 _).mono ?_
  rintro e w7 ⟨rfl, hb⟩
  replace hb := hb1.trans (hb.mono hb1.size)
  clear hb1
  have hb1 := hb
  clear hb
  go_wp2_with fail
  refine (S2 _).mono ?_
  rintro e w' ⟨rfl, rfl⟩
  go_wp2_with fail
  refine (I _).mono ?_
  rintro e w' ⟨rfl, rfl⟩
  go_wp2_with fail
  refine (T3 _).mono ?_
  rintro e w10 ⟨rfl, hb⟩
  replace hb := hb1.trans (hb.mono hb1.size)
  clear hb1
  have hb1 := hb
  clear hb
  clear T1 T2 P1 P2 S1 S2 I T3
  go_wp2
  go_ret
  exact ⟨rfl, hb1⟩
set_option maxHeartbeats 4000000 in
theorem nan_no (x y : Nat) (s : ByteArray) (w : World) (hs : s.size ≤ 60) (hx : x < 18446744073709551616) (hy : y < 18446744073709551616) (hn : isN x = true) (P2 : ∀ w, Calls Try.prog 22 #[.string s] w fun e w' => e = .returned (.tuple #[.float .f64 0, .int .i64 3]) ∧ Below w.heap.size w w') :
    Calls Try.prog 6 #[.float .f64 x, .float .f64 y, .string s] w fun e w' => e = .returned (.bool true) ∧ Below w.heap.size w w' := by
  have T1 := fun w => print_any x w hx
  have T2 := fun w => print_any y w hy
  have P1 := parse_back x hx
  have S1 := fun w => same_any (nx x) x w (nx_lt x hx) hx
  have S2 := fun w => same_any x y w hx hy
  have I := fun w => isNaN_any x w hx
  have r1 := run_bits
  simp only [show eq (nx x) x = true from decide_eq_true (nx_place x)] at S1
  simp only [hn] at I
  have tx := texts x y hx hy
  generalize eq x y = q at *
  generalize prt x = tx1 at *
  generalize prt y = ty1 at *
  generalize nx x = z at *
  have qq : (q != q) = false := by simp
  clear hx hy hn
  go_enter Try.func6, Try.ntmps6
  go_wp2_with fail
  refine (awake_any _).mono ?_
  rintro e w1 ⟨rfl, hb1⟩
  go_wp2_with fail
  refine (T1 _).mono ?_
  rintro e w2 ⟨rfl, hb⟩
  replace hb := hb1.trans (hb.mono hb1.size)
  clear hb1
  have hb1 := hb
  clear hb
  go_wp2_with fail
  refine (P1 _).mono ?_
  rintro e w3 ⟨rfl, hb⟩
  replace hb := hb1.trans (hb.mono hb1.size)
  clear hb1
  have hb1 := hb
  clear hb
  go_wp2_with fail
  refine (P2 _).mono ?_
  rintro e w4 ⟨rfl, hb⟩
  replace hb := hb1.trans (hb.mono hb1.size)
  clear hb1
  have hb1 := hb
  clear hb
  go_wp2_with fail
  refine (S1 _).mono ?_
  rintro e w' ⟨rfl, rfl⟩
  go_wp2_with fail
  refine (T1 _).mono ?_
  rintro e w6 ⟨rfl, hb⟩
  replace hb := hb1.trans (hb.mono hb1.size)
  clear hb1
  have hb1 := hb
  clear hb
  go_wp2_with fail
  refine (T2 _).mono ?_
  rintro e w7 ⟨rfl, hb⟩
  replace hb := hb1.trans (hb.mono hb1.size)
  clear hb1
  have hb1 := hb
  clear hb
  go_wp2_with fail
  refine (S2 _).mono ?_
  rintro e w' ⟨rfl, rfl⟩
  go_wp2_with fail
  refine (I _).mono ?_
  rintro e w' ⟨rfl, rfl⟩
  clear T1 T2 P1 P2 S1 S2 I
  go_wp2
  go_ret
  exact ⟨rfl, hb1⟩
set_option maxHeartbeats 4000000 in
theorem num_ok (x y : Nat) (s : ByteArray) (w : World) (hs : s.size ≤ 60) (hx : x < 18446744073709551616) (hy : y < 18446744073709551616) (hn : isN x = false) (p : Nat) (hp : p < 18446744073709551616) (ep : prt p = s) (P2 : ∀ w, Calls Try.prog 22 #[.string s] w fun e w' => e = .returned (.tuple #[.float .f64 p, .int .i64 0]) ∧ Below w.heap.size w w') :
    Calls Try.prog 6 #[.float .f64 x, .float .f64 y, .string s] w fun e w' => e = .returned (.bool true) ∧ Below w.heap.size w w' := by
  have T1 := fun w => print_any x w hx
  have T2 := fun w => print_any y w hy
  have P1 := parse_back x hx
  have S1 := fun w => same_any (nx x) x w (nx_lt x hx) hx
  have S2 := fun w => same_any x y w hx hy
  have I := fun w => isNaN_any x w hx
  have r1 := run_bits
  simp only [show eq (nx x) x = true from decide_eq_true (nx_place x)] at S1
  simp only [hn] at I
  have tx := texts x y hx hy
  have T3 := fun w => print_any p w hp
  rw [ep] at T3
  have es : (s.toList == s.toList) = true := by simp
  have ex : nx x = x := by unfold nx; rw [hn]; rfl
  rw [ex] at P1 S1
  have xx : ((x : Int) != (x : Int)) = false := by simp
  clear ex
  generalize eq x y = q at *
  generalize prt x = tx1 at *
  generalize prt y = ty1 at *
  have qq : (q != q) = false := by simp
  clear hx hy hn hp ep
  go_enter Try.func6, Try.ntmps6
  go_wp2_with fail
  refine (awake_any _).mono ?_
  rintro e w1 ⟨rfl, hb1⟩
  go_wp2_with fail
  refine (T1 _).mono ?_
  rintro e w2 ⟨rfl, hb⟩
  replace hb := hb1.trans (hb.mono hb1.size)
  clear hb1
  have hb1 := hb
  clear hb
  go_wp2_with fail
  refine (P1 _).mono ?_
  rintro e w3 ⟨rfl, hb⟩
  replace hb := hb1.trans (hb.mono hb1.size)
  clear hb1
  have hb1 := hb
  clear hb
  go_wp2_with fail
  refine (P2 _).mono ?_
  rintro e w4 ⟨rfl, hb⟩
  replace hb := hb1.trans (hb.mono hb1.size)
  clear hb1
  have hb1 := hb
  clear hb
  go_wp2_with fail
  refine (S1 _).mono ?_
  rintro e w' ⟨rfl, rfl⟩
  go_wp2_with fail
  refine (T1 _).mono ?_
  rintro e w6 ⟨rfl, hb⟩
  replace hb := hb1.trans (hb.mono hb1.size)
  clear hb1
  have hb1 := hb
  clear hb
  go_wp2_with fail
  refine (T2 _).mono ?_
  rintro e w7 ⟨rfl, hb⟩
  replace hb := hb1.trans (hb.mono hb1.size)
  clear hb1
  have hb1 := hb
  clear hb
  go_wp2_with fail
  refine (S2 _).mono ?_
  rintro e w' ⟨rfl, rfl⟩
  go_wp2_with fail
  refine (I _).mono ?_
  rintro e w' ⟨rfl, rfl⟩
  go_wp2_with fail
  refine (T3 _).mono ?_
  rintro e w10 ⟨rfl, hb⟩
  replace hb := hb1.trans (hb.mono hb1.size)
  clear hb1
  have hb1 := hb
  clear hb
  clear T1 T2 P1 P2 S1 S2 I T3
  go_wp2
  go_ret
  exact ⟨rfl, hb1⟩
set_option maxHeartbeats 4000000 in
theorem num_no (x y : Nat) (s : ByteArray) (w : World) (hs : s.size ≤ 60) (hx : x < 18446744073709551616) (hy : y < 18446744073709551616) (hn : isN x = false) (P2 : ∀ w, Calls Try.prog 22 #[.string s] w fun e w' => e = .returned (.tuple #[.float .f64 0, .int .i64 3]) ∧ Below w.heap.size w w') :
    Calls Try.prog 6 #[.float .f64 x, .float .f64 y, .string s] w fun e w' => e = .returned (.bool true) ∧ Below w.heap.size w w' := by
  have T1 := fun w => print_any x w hx
  have T2 := fun w => print_any y w hy
  have P1 := parse_back x hx
  have S1 := fun w => same_any (nx x) x w (nx_lt x hx) hx
  have S2 := fun w => same_any x y w hx hy
  have I := fun w => isNaN_any x w hx
  have r1 := run_bits
  simp only [show eq (nx x) x = true from decide_eq_true (nx_place x)] at S1
  simp only [hn] at I
  have tx := texts x y hx hy
  have ex : nx x = x := by unfold nx; rw [hn]; rfl
  rw [ex] at P1 S1
  have xx : ((x : Int) != (x : Int)) = false := by simp
  clear ex
  generalize eq x y = q at *
  generalize prt x = tx1 at *
  generalize prt y = ty1 at *
  have qq : (q != q) = false := by simp
  clear hx hy hn
  go_enter Try.func6, Try.ntmps6
  go_wp2_with fail
  refine (awake_any _).mono ?_
  rintro e w1 ⟨rfl, hb1⟩
  go_wp2_with fail
  refine (T1 _).mono ?_
  rintro e w2 ⟨rfl, hb⟩
  replace hb := hb1.trans (hb.mono hb1.size)
  clear hb1
  have hb1 := hb
  clear hb
  go_wp2_with fail
  refine (P1 _).mono ?_
  rintro e w3 ⟨rfl, hb⟩
  replace hb := hb1.trans (hb.mono hb1.size)
  clear hb1
  have hb1 := hb
  clear hb
  go_wp2_with fail
  refine (P2 _).mono ?_
  rintro e w4 ⟨rfl, hb⟩
  replace hb := hb1.trans (hb.mono hb1.size)
  clear hb1
  have hb1 := hb
  clear hb
  go_wp2_with fail
  refine (S1 _).mono ?_
  rintro e w' ⟨rfl, rfl⟩
  go_wp2_with fail
  refine (T1 _).mono ?_
  rintro e w6 ⟨rfl, hb⟩
  replace hb := hb1.trans (hb.mono hb1.size)
  clear hb1
  have hb1 := hb
  clear hb
  go_wp2_with fail
  refine (T2 _).mono ?_
  rintro e w7 ⟨rfl, hb⟩
  replace hb := hb1.trans (hb.mono hb1.size)
  clear hb1
  have hb1 := hb
  clear hb
  go_wp2_with fail
  refine (S2 _).mono ?_
  rintro e w' ⟨rfl, rfl⟩
  go_wp2_with fail
  refine (I _).mono ?_
  rintro e w' ⟨rfl, rfl⟩
  clear T1 T2 P1 P2 S1 S2 I
  go_wp2
  go_ret
  exact ⟨rfl, hb1⟩
theorem walk (x y : Nat) (s : ByteArray) (wx : (Lit.float .f64 x).wf = true) (wy : (Lit.float .f64 y).wf = true) (ws : s.size ≤ maxLen) (w : World) :
    Calls Try.prog 6 #[.float .f64 x, .float .f64 y, .string s] w fun e w' => e = .returned (.bool true) ∧ Below w.heap.size w w' := by
  by_cases h : 60 < s.size
  · exact long x y s w ws h
  · have hx := lt_of wx
    have hy := lt_of wy
    have hs : s.size ≤ 60 := by omega
    cases hn : isN x <;> rcases parse_one s hs with ⟨p, hp, ep, P⟩ | P
    · exact num_ok x y s w hs hx hy hn p hp ep P
    · exact num_no x y s w hs hx hy hn P
    · exact nan_ok x y s w hs hx hy hn p hp ep P
    · exact nan_no x y s w hs hx hy hn P

theorem own : ownKnob Try.prog.godebug = none := by kernel_rfl

set_option maxRecDepth 100000 in
theorem lifted (os : Os) (started : os.Started) (H : Type) (enc : TypeId × Value → H) :
    ReturnsInHanded {} Try.checked os 6 .any (Rows.realBackSpec.pre6 enc Try.prog Try.f6 Rows.realBackRow.domain false) (Rows.realBackSpec.post enc Try.prog Try.f6 false true false false) := by
  refine returnsInHanded_of_change (C := Try.checked) own started (by kernel_rfl) Try.func6
    (ChangeSpec.witness6 (enc := enc) (C := Try.checked) false ⟨#[], #[.float .f64 0, .float .f64 0, .string ByteArray.empty], []⟩ 8 (by kernel_rfl) (by kernel_rfl) (by kernel_rfl) (by kernel_rfl)) ?_
  intro W base args ds gs before hval0 hW hcnd _
  have hval : ∀ (j : Nat) t v, Try.f6.params[j]? = some t → args[j]? = some v → Value.okWide Try.prog W .any base t v := hval0
  have hW' := hW
  obtain ⟨p, q, hA0, hV, rfl, hfz, hnd⟩ := hW
  have hA : DataW.TrodAll enc Try.prog W 0 (fun _ => true) true Try.f6.params.toList args.toList ds p := hA0
  rw [Try.params6] at hA hval
  obtain ⟨v0, vs0, d0, ds0, p0, q0, hargs, rfl, rfl, h0, r0⟩ := trodAll_cons hA
  obtain ⟨v1, vs1, d1, ds1, p1, q1, rfl, rfl, rfl, h1, r1⟩ := trodAll_cons r0
  obtain ⟨v2, vs2, d2, ds2, p2, q2, rfl, rfl, rfl, h2, r2⟩ := trodAll_cons r1
  obtain ⟨rfl, rfl, rfl⟩ := trodAll_nil r2
  obtain rfl : args = #[v0, v1, v2] := by cases args; simp_all
  obtain ⟨rfl, rfl⟩ := trodVars_none hV
  obtain ⟨a0, rfl, rfl, rfl, w0⟩ := open_float Try.underlying22 (hval 0 22 v0 rfl rfl) h0
  obtain ⟨a1, rfl, rfl, rfl, w1⟩ := open_float Try.underlying22 (hval 1 22 v1 rfl rfl) h1
  obtain ⟨a2, rfl, rfl, rfl, w2⟩ := open_string Try.underlying9 (hval 2 9 v2 rfl rfl) h2
  clear hA0 hval0
  simp only [List.append_nil] at hW'
  refine (walk a0 a1 a2 w0 w1 w2 W).mono fun e W' ⟨he, bel⟩ => ?_
  subst he
  exact ⟨_, rfl, _, _, _, [], _, [], hW', trodAll_mk1 (shut_bool Try.underlying4 _), (trodAll_cons_mk (shut_float Try.underlying22 w0) (trodAll_cons_mk (shut_float Try.underlying22 w1) (trodAll_cons_mk (shut_string Try.underlying9 w2) trodAll_mk0))), rfl, bel.frame _, fun h => by cases h⟩

theorem over : Rows.realBackRow.holds Try.pinned (OpenSpec.ofChange Rows.realBackSpec) :=
  OpenClaim.holds_of_wide 6 Try.f6 rfl rfl rfl rfl rfl rfl rfl ⟨rfl, rfl, rfl, rfl, rfl⟩ rfl rfl rfl rfl rfl (by kernel_rfl) Try.func6 (by kernel_rfl)
    (of_decide_eq_true (by kernel_rfl)) (by unfold Func.isWrapper; first | (rw [if_pos (by decide +kernel)]; kernel_rfl) | (rw [if_neg (by decide +kernel)]; exact ⟨rfl, rfl⟩))
    (fun os started H enc _ => lifted os started H enc)

theorem proved : Rows.RealBackSaid :=
  over
#print axioms proved
end Go.Proofs.Ytmfhokbognlhbaa.realBack
