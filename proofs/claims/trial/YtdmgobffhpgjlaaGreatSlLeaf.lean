/-
  Contracts of the smallest functions of package slip and of the document's: layoutOf, has, isName, isNumber, number.
-/
import Derived.Test.YtdmgobffhpgjlaaGreatSlMem
namespace Go.Proofs.YtdmgobffhpgjlaaGreat.Sl
open Go.RowKit Go.PlainAid Go.Proofs.YtdmgobffhpgjlaaGreat.Cr
set_option linter.unusedVariables false
set_option maxRecDepth 20000
set_option linter.unusedSimpArgs false

def layV (k : Int) : Array Value := #[.bool (hT k), .bool (hD k), .bool (hM k), .bool (hA k)]
theorem lay_one (k : Int) : ∀ v ∈ (layV k).toList, v.oneCell' = true := by simp [layV, Value.oneCell']
theorem kinds (k : Int) : k = 1 ∨ k = 2 ∨ k = 3 ∨ k = 4 ∨ k = 5 ∨ k = 6 ∨ (k ≠ 1 ∧ k ≠ 2 ∧ k ≠ 3 ∧ k ≠ 4 ∧ k ≠ 5 ∧ k ≠ 6) := by omega

set_option maxHeartbeats 1000000 in
theorem layout_any (k : Int) (w : World) :
    Calls Tryz.prog 94 #[.int .i64 k] w fun e w' => e = .returned (.agg (layV k)) ∧ Below w.heap.size w w' := by
  have S1 : Stores Tryz.prog (w.alloc (.cells #[.bool false, .bool false, .bool false, .bool false] 146)) 146 w.heap.size 0 (layV k) ((w.alloc (.cells #[.bool false, .bool false, .bool false, .bool false] 146)).setRow w.heap.size (layV k)) := (At.new w _ _).stores (by kernel_rfl) rfl (lay_one k)
  have A1 := (At.new w 146 #[.bool false, .bool false, .bool false, .bool false]).row (layV k)
  have F1 : Below w.heap.size w ((w.alloc (.cells #[.bool false, .bool false, .bool false, .bool false] 146)).setRow w.heap.size (layV k)) := below_row ((Below.refl _ _).alloc (Nat.le_refl _) _) (Nat.le_refl _)
  generalize (w.alloc (.cells #[.bool false, .bool false, .bool false, .bool false] 146)).setRow w.heap.size (layV k) = X at S1 A1 F1
  have R : ∀ f : Func, f = Tryz.f94 → ∀ tmps : Array Value, tmps.getD 2 undef = .pointer (some ⟨w.heap.size, 0, none⟩) → (results f tmps).run Tryz.prog X = .ok (.agg (layV k)) X := fun f hf tmps ht => by
    subst hf
    exact results_cell_row Tryz.results94 _ _ w.heap.size 146 (layV k) (0, 0) _ ht A1.heap Tryz.underlying146 rfl (by kernel_rfl)
  have HR := Lib.hid R
  clear R A1
  rcases kinds k with rfl | rfl | rfl | rfl | rfl | rfl | ⟨h1, h2, h3, h4, h5, h6⟩
  case inr.inr.inr.inr.inr.inr =>
    have e : layV k = #[.bool false, .bool false, .bool false, .bool false] := by simp [layV, hT, hD, hM, hA, h1, h2, h3, h4, h5, h6]
    have A0 := At.new w 146 #[.bool false, .bool false, .bool false, .bool false]
    rw [e]
    clear e S1 HR F1
    go_enter Tryz.func94, Tryz.ntmps94
    go_wp2
    exact bodyPost_ret (results_cell_row Tryz.results94 _ _ w.heap.size 146 #[.bool false, .bool false, .bool false, .bool false] (0, 0) _ rfl A0.heap Tryz.underlying146 rfl (by kernel_rfl)) rfl ⟨rfl, (Below.refl _ _).alloc (Nat.le_refl _) _⟩
  all_goals
    go_enter Tryz.func94, Tryz.ntmps94
    go_wp2_with (refine wpl_store S1 rfl rfl rfl rfl rfl ?_)
    exact bodyPost_ret (HR.out _ rfl _ rfl) rfl ⟨rfl, F1⟩
theorem isName_any (s : ByteArray) (m : Int) (w : World) (hs : s.size ≤ 9223372036854775807) :
    Calls Tryz.prog 95 #[.string s, .int .i64 m] w fun e w' => e = .returned (.bool (decide (1 ≤ (s.size : Int)) && decide ((s.size : Int) ≤ m))) ∧ w = w' := by
  go_enter Tryz.func95, Tryz.ntmps95
  go_wp2
  all_goals
    rename_i h
    go_ret
    refine ⟨?_, rfl⟩
    first
    | (rw [decide_eq_true h]; rfl)
    | (rw [decide_eq_false (by omega)]; rfl)
theorem isNumber_any (n m : Int) (w : World) :
    Calls Tryz.prog 96 #[.int .i64 n, .int .i64 m] w fun e w' => e = .returned (.bool (decide (0 ≤ n) && decide (n ≤ m))) ∧ w = w' := by
  go_enter Tryz.func96, Tryz.ntmps96
  go_wp2
  all_goals
    rename_i h
    go_ret
    refine ⟨?_, rfl⟩
    first
    | (rw [decide_eq_true h]; rfl)
    | (rw [decide_eq_false (by omega)]; rfl)
theorem or_byte (a b : Int) (h0 : 0 ≤ b) (h1 : b ≤ 255) : bits .or .i64 (wrap64 (wrap64 a * 256)) b = wrap64 (a * 256 + b) := by
  obtain ⟨c, rfl⟩ : ∃ c : Nat, b = (c : Int) := ⟨b.toNat, by omega⟩
  have hc : c < 256 := by omega
  show IntKind.i64.wrap ((((BitVec.ofInt 64 (wrap64 (wrap64 a * 256))) ||| (BitVec.ofInt 64 (c : Int))).toNat : Nat) : Int) = _
  rw [BitVec.toNat_or, BitVec.toNat_ofInt, BitVec.toNat_ofInt]
  obtain ⟨u, hu⟩ : ∃ u : Nat, (wrap64 (wrap64 a * 256)) % 18446744073709551616 = (u : Int) := ⟨((wrap64 (wrap64 a * 256)) % 18446744073709551616).toNat, by omega⟩
  have hu' : ((wrap64 (wrap64 a * 256)) % ((2 ^ 64 : Nat) : Int)).toNat = u := by
    rw [show ((2 ^ 64 : Nat) : Int) = 18446744073709551616 by rfl, hu]; rfl
  have hc' : ((c : Int) % ((2 ^ 64 : Nat) : Int)).toNat = c := by
    rw [show ((2 ^ 64 : Nat) : Int) = 18446744073709551616 by rfl]; omega
  rw [hu', hc']
  unfold wrap64 at hu
  rw [nat_join 8 u c (by omega) hc, i64_is]
  unfold wrap64
  omega
theorem number_any (s : ByteArray) (w : World) (hs : s.size ≤ 1000000) :
    Calls Tryz.prog 106 #[.string s] w fun e w' => e = .returned (.int .i64 (IntKind.i64.wrap (bN (bl s) : Int))) ∧ w = w' := by
  have hb := get_bt s
  go_enter Tryz.func106, Tryz.ntmps106
  go_wp2
  go_loopw [3, 7] (fun x i wr => ∃ k : Nat, k ≤ s.size ∧ x = .int .i64 (IntKind.i64.wrap (bN ((bl s).take k) : Int)) ∧ i = .int .i64 k ∧ w = wr) (fun _ i _ => s.size - (intOf i).toNat)
  case atStart => exact ⟨0, Nat.zero_le _, rfl, rfl, rfl⟩
  case round =>
    obtain ⟨k, hk, rfl, rfl, rfl⟩ := hrel
    by_cases hlt : k < s.size
    · have l1 : (k : Int) < (s.size : Int) := by omega
      have i1 : (0 : Int) ≤ (k : Int) := Int.natCast_nonneg _
      have b0 := bt_nonneg s k
      have b1 := bt_le s k
      have o1 := or_byte (bN ((bl s).take k) : Int) (bt s k) b0 b1
      go_wp2
      go_roundw
      case rel =>
        refine ⟨k + 1, by omega, ?_, by go_num, trivial⟩
        rw [bl_snoc s k hlt, bN_snoc, i64_is, ← bn_bt]
        congr 1
      case measure => simp [intOf]; omega
    · have l1 : ¬ (k : Int) < (s.size : Int) := by omega
      have e3 : (bl s).take k = bl s := List.take_of_length_le (by rw [bl_len]; omega)
      rw [e3]
      clear e3
      go_wp2
      go_ret
      exact ⟨rfl, rfl⟩
end Go.Proofs.YtdmgobffhpgjlaaGreat.Sl
