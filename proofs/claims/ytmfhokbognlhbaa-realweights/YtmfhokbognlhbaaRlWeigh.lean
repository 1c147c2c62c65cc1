/-
  Weights of thousandths, one by one: their texts, and how they stand to one another.
-/
import Derived.Test.YtmfhokbognlhbaaRlAwake
namespace Go.Proofs.Ytmfhokbognlhbaa.Rl
open Go.RowKit Go.PlainAid
open Go.Proofs.Ytmfhokbognlhbaa.Hx (hd hd_nat size_mk bt_mk bt_get)
set_option linter.unusedVariables false

def fits (k : Nat) : Bool := (FloatKind.f64.format.order (rat k 1000) (rat (k / 10 : Nat) 100) == some .gt || FloatKind.f64.format.order (rat k 1000) (rat (k / 10 : Nat) 100) == some .eq) && (FloatKind.f64.format.order (rat k 1000) 4607182418800017408 == some .lt) && (FloatKind.f64.format.order (rat k 1000) (rat k 1000) == some .eq)
def allBelow : Nat → Bool
  | 0 => true
  | n + 1 => fits n && allBelow n
theorem below_fits : ∀ m n, n < m → allBelow m = true → fits n = true
  | 0, n, h, a => absurd h (Nat.not_lt_zero _)
  | m + 1, n, h, a => by
    simp only [allBelow, Bool.and_eq_true] at a
    by_cases e : n = m
    · subst e; exact a.1
    · exact below_fits m n (by omega) a.2
set_option maxRecDepth 100000 in
theorem all_fit : allBelow 1000 = true := by decide +kernel
theorem fit (k : Nat) (h : k < 1000) : (FloatKind.f64.format.order (rat k 1000) (rat (k / 10 : Nat) 100) == some .gt || FloatKind.f64.format.order (rat k 1000) (rat (k / 10 : Nat) 100) == some .eq) = true ∧ (FloatKind.f64.format.order (rat k 1000) 4607182418800017408 == some .lt) = true ∧ (FloatKind.f64.format.order (rat k 1000) (rat k 1000) == some .eq) = true := by
  have := below_fits 1000 k h all_fit
  unfold fits at this
  simp only [Bool.and_eq_true] at this
  exact ⟨this.1.1, this.1.2, this.2⟩

theorem sliceD (w : World) (r : Int) (h0 : 0 ≤ r) (h1 : r < 10) :
    (Instr.sliceAt 9 (.string ⟨#[48, 49, 50, 51, 52, 53, 54, 55, 56, 57]⟩) (some (.int .i64 r)) (some (.int .i64 (r + 1))) none).run Try.prog w = .ok (.string ⟨[hd r.toNat].toArray⟩) w := by
  rw [run_sliceAt_string w 9 _ _ _ _ Try.underlying9, run_slice_string w 9 _ _ _ _ _ Try.underlying9 h0 (by omega) (by show r + 1 ≤ 10; omega)]
  obtain ⟨n, rfl⟩ := Int.eq_ofNat_of_zero_le h0
  have hn : n < 10 := by omega
  have : ∀ m : Fin 10, (⟨[48, 49, 50, 51, 52, 53, 54, 55, 56, 57].toArray⟩ : ByteArray).extract m.val (m.val + 1) = ⟨[hd m.val].toArray⟩ := by
    intro m
    rw [ByteArray.extract_mk]
    have : ∀ m : Fin 10, List.take (m.val + 1 - m.val) (List.drop m.val [48, 49, 50, 51, 52, 53, 54, 55, 56, 57]) = [hd m.val] := by decide
    rw [this]
  have e := this ⟨n, hn⟩
  simp only at e
  simp only [Int.toNat_natCast]
  rw [show ((n : Int) + 1).toNat = n + 1 by omega]
  exact congrArg (fun x => Result.ok (Value.string x) w) e

/-- the text of k thousandths -/
def wt3 (k : Nat) : ByteArray := ⟨[48, 46, hd (k / 100), hd (k / 10 % 10), hd (k % 10)].toArray⟩
def wt2 (k : Nat) : ByteArray := ⟨[48, 46, hd (k / 100), hd (k / 10 % 10)].toArray⟩
theorem hd_int (n : Nat) (h : n < 10) : ((hd n).toNat : Int) = 48 + n := by rw [hd_nat n (by omega), if_pos h]; omega
theorem wt3_is (k : Nat) (h : k < 1000) : QForm (wt3 k) ∧ qN (wt3 k) = k := by
  have b0 : bt (wt3 k) 0 = 48 := rfl
  have b1 : bt (wt3 k) 1 = 46 := rfl
  have b2 : bt (wt3 k) 2 = 48 + (k / 100 : Nat) := by rw [← hd_int _ (by omega)]; rfl
  have b3 : bt (wt3 k) 3 = 48 + (k / 10 % 10 : Nat) := by rw [← hd_int _ (by omega)]; rfl
  have b4 : bt (wt3 k) 4 = 48 + (k % 10 : Nat) := by rw [← hd_int _ (by omega)]; rfl
  have sz : (wt3 k).size = 5 := rfl
  refine ⟨⟨by omega, by omega, .inl b0, fun _ => b1, ?_⟩, ?_⟩
  · intro j hj
    rw [sz] at hj
    have c : j = 0 ∨ j = 1 ∨ j = 2 := by omega
    rw [b0]
    show 48 ≤ bt (wt3 k) (j + 2) ∧ bt (wt3 k) (j + 2) ≤ 57
    rcases c with rfl | rfl | rfl
    · rw [b2]; omega
    · rw [b3]; omega
    · rw [b4]; omega
  · unfold qN
    rw [sz, b0]
    show 10 * (10 * (10 * (48 - 48) + (bt (wt3 k) 2 - 48)) + (bt (wt3 k) 3 - 48)) + (bt (wt3 k) 4 - 48) = (k : Int)
    rw [b2, b3, b4]
    omega
theorem wt2_is (k : Nat) (h : k < 1000) : QForm (wt2 k) ∧ qN (wt2 k) = (k / 10 : Nat) := by
  have b0 : bt (wt2 k) 0 = 48 := rfl
  have b1 : bt (wt2 k) 1 = 46 := rfl
  have b2 : bt (wt2 k) 2 = 48 + (k / 100 : Nat) := by rw [← hd_int _ (by omega)]; rfl
  have b3 : bt (wt2 k) 3 = 48 + (k / 10 % 10 : Nat) := by rw [← hd_int _ (by omega)]; rfl
  have sz : (wt2 k).size = 4 := rfl
  refine ⟨⟨by omega, by omega, .inl b0, fun _ => b1, ?_⟩, ?_⟩
  · intro j hj
    rw [sz] at hj
    have c : j = 0 ∨ j = 1 := by omega
    rw [b0]
    show 48 ≤ bt (wt2 k) (j + 2) ∧ bt (wt2 k) (j + 2) ≤ 57
    rcases c with rfl | rfl
    · rw [b2]; omega
    · rw [b3]; omega
  · unfold qN
    rw [sz, b0]
    show 10 * (10 * (48 - 48) + (bt (wt2 k) 2 - 48)) + (bt (wt2 k) 3 - 48) = ((k / 10 : Nat) : Int)
    rw [b2, b3]
    omega
theorem q3 (k : Nat) (h : k < 1000) (w : World) : Calls Try.prog 24 #[.string (wt3 k)] w fun e w' => e = .returned (.tuple #[.float .f64 (rat k 1000), .int .i64 0]) ∧ Below w.heap.size w w' := by
  obtain ⟨f, n⟩ := wt3_is k h
  have ep : (10 : Int) ^ ((wt3 k).size - 2) = 1000 := by rw [show (wt3 k).size = 5 from rfl]; decide
  refine (quality_any (wt3 k) w (by show 5 ≤ 1099511627776; decide)).mono fun e w' ⟨q, hb⟩ => ⟨?_, hb⟩
  rcases q with ⟨_, q⟩ | ⟨q, _⟩
  · rw [q, n, ep]
  · exact absurd f q
theorem q2 (k : Nat) (h : k < 1000) (w : World) : Calls Try.prog 24 #[.string (wt2 k)] w fun e w' => e = .returned (.tuple #[.float .f64 (rat (k / 10 : Nat) 100), .int .i64 0]) ∧ Below w.heap.size w w' := by
  obtain ⟨f, n⟩ := wt2_is k h
  have ep : (10 : Int) ^ ((wt2 k).size - 2) = 100 := by rw [show (wt2 k).size = 4 from rfl]; decide
  refine (quality_any (wt2 k) w (by show 4 ≤ 1099511627776; decide)).mono fun e w' ⟨q, hb⟩ => ⟨?_, hb⟩
  rcases q with ⟨_, q⟩ | ⟨q, _⟩
  · rw [q, n, ep]
  · exact absurd f q
theorem cut_num (n : Int) : ∃ k : Nat, k < 1000 ∧ (IntKind.u64.wrap n).tmod 1000 = (k : Int) := by
  have h0 : 0 ≤ IntKind.u64.wrap n := wrap_u64_nonneg n
  rw [Int.tmod_eq_emod_of_nonneg h0]
  exact ⟨(IntKind.u64.wrap n % 1000).toNat, by omega, by omega⟩

theorem q_yes (s : ByteArray) (hs : s.size ≤ 60) (h : QForm s) (w : World) : Calls Try.prog 24 #[.string s] w fun e w' => e = .returned (.tuple #[.float .f64 (rat (qN s) (10 ^ (s.size - 2))), .int .i64 0]) ∧ Below w.heap.size w w' :=
  (quality_any s w (by omega)).mono fun e w' ⟨q, hb⟩ => ⟨q.elim (fun x => x.2) (fun x => absurd h x.1), hb⟩
theorem q_no (s : ByteArray) (hs : s.size ≤ 60) (h : ¬ QForm s) (w : World) : Calls Try.prog 24 #[.string s] w fun e w' => e = .returned (.tuple #[.float .f64 0, .int .i64 3]) ∧ Below w.heap.size w w' :=
  (quality_any s w (by omega)).mono fun e w' ⟨q, hb⟩ => ⟨q.elim (fun x => absurd x.1 h) (fun x => x.2), hb⟩
end Go.Proofs.Ytmfhokbognlhbaa.Rl
