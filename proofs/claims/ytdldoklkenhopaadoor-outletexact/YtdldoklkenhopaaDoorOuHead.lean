/-
  Contracts of canBeWritten, sizeOf and headOf of package outlet. Conditions: at most 60 fields, whose texts are within the form's reach.
-/
import Derived.Test.YtdldoklkenhopaaDoorOuMath
import Derived.Test.YtdldoklkenhopaaDoorFiGood
import Derived.Test.YtdldoklkenhopaaDoorChBld
namespace Go.Proofs.YtdldoklkenhopaaDoor.Ou
open Go.RowKit Go.PlainAid
open Hx Fi Ch In
set_option linter.unusedVariables false
set_option maxRecDepth 20000
set_option linter.unusedSimpArgs false

theorem get_len {α : Type} {xs : List α} {k : Nat} {x : α} (h : xs[k]? = some x) : k < xs.length := (List.getElem?_eq_some_iff.1 h).1
/-- the first fields are good -/
def GoodTo (xs : List Fi.Fd) (k : Nat) : Prop := ∀ x ∈ xs.take k, goodF x = true
theorem GoodTo.succ {xs : List Fi.Fd} {k : Nat} {x : Fi.Fd} (h : GoodTo xs k) (hx : xs[k]? = some x) (hg : goodF x = true) : GoodTo xs (k + 1) := by
  intro y hy
  rw [List.take_add_one, hx] at hy
  rcases List.mem_append.1 hy with hy | hy
  · exact h y hy
  · simp at hy; subst hy; exact hg
theorem GoodTo.all {xs : List Fi.Fd} {k : Nat} (h : GoodTo xs k) (hk : xs.length ≤ k) : xs.all goodF = true :=
  List.all_eq_true.2 fun x hx => h x (by rw [List.take_of_length_le hk]; exact hx)
theorem not_all {xs : List Fi.Fd} {k : Nat} {x : Fi.Fd} (hx : xs[k]? = some x) (hg : goodF x = false) : xs.all goodF = false := by
  rw [List.all_eq_false]
  exact ⟨x, List.mem_of_getElem? hx, by rw [hg]; decide⟩
set_option maxHeartbeats 4000000 in
theorem can_any {w : World} {v : Value} {xs : List Fi.Fd} (hv : FdsAt w v xs) (hl : xs.length ≤ 60) (hr : Fi.Reach xs) :
    Calls Tryd.prog 28 #[v] w fun e w' => e = .returned (.bool (decide (xs.length ≤ 32) && xs.all goodF)) ∧ Below w.heap.size w w' := by
  obtain ⟨base, cap, rfl, _, _⟩ := hv.is
  have HV := Lib.hid hv
  have HR := Lib.hid hr
  clear hv hr
  obtain ⟨n, hn⟩ : ∃ n, n = xs.length := ⟨_, rfl⟩
  rw [← hn] at HV hl ⊢
  have HN := Lib.hid hn
  clear hn
  by_cases h32 : n ≤ 32
  · rw [show decide (n ≤ 32) = true from decide_eq_true h32, Bool.true_and]
    obtain ⟨r, hr⟩ : ∃ r, xs.all goodF = r := ⟨_, rfl⟩
    rw [hr]
    have HQ := Lib.hid hr
    clear hr
    have l0 : ¬ (32 : Int) < (n : Int) := by omega
    go_enter Tryd.func28, Tryd.ntmps28
    go_wp2
    go_loopw [10] (fun i wr => ∃ k : Nat, k ≤ n ∧ i = .int .i64 k ∧ Hid (GoodTo xs k) ∧ Below w.heap.size w wr) (fun i _ => n - (intOf i).toNat)
    case atStart => exact ⟨0, Nat.zero_le _, rfl, Lib.hid (by intro x hx; simp at hx), Below.refl _ _⟩
    case round =>
      obtain ⟨k, hk, rfl, HG, bel⟩ := hrel
      by_cases hlt : k < n
      · have l1 : (k : Int) < (n : Int) := by omega
        obtain ⟨x, hx⟩ : ∃ x, xs[k]? = some x := ⟨xs[k]'(by have := HN.out; omega), List.getElem?_eq_getElem _⟩
        obtain ⟨a, rfl, ha, L1, _, _⟩ := (HV.out.below bel).loads hx
        obtain ⟨r1, r2⟩ := HR.out x (List.mem_of_getElem? hx)
        obtain ⟨w2, S2, A2, G2, Z2⟩ := fd_keep wr x
        have L2 := fd_loads A2
        have bel2 := bel.trans (G2.mono bel.size)
        have gd := fun w => good_any x w (by omega) (by omega)
        have HX := Lib.hid hx
        clear hx bel G2 Z2 A2 r1 r2
        generalize hB : wr.heap.size = B at S2 L2
        cases hg : goodF x with
        | false =>
          have E : r = false := by rw [← HQ.out]; exact not_all HX.out hg
          subst E
          rw [hg] at gd
          clear hg
          go_wp2_with (first | refine wpl_load L1 rfl rfl rfl ?_ | refine wpl_load L2 rfl rfl rfl ?_ | refine wpl_store S2 rfl rfl rfl (by rw [← hB]; rfl) rfl ?_)
          refine (gd _).mono ?_
          rintro e w3 ⟨rfl, G3⟩
          have bel3 := bel2.trans (G3.mono bel2.size)
          clear gd S2 L2 L1 bel2 G3
          go_wp2
          go_ret
          exact ⟨rfl, bel3⟩
        | true =>
          have NX := Lib.hid (HG.out.succ HX.out hg)
          rw [hg] at gd
          clear hg HG
          go_wp2_with (first | refine wpl_load L1 rfl rfl rfl ?_ | refine wpl_load L2 rfl rfl rfl ?_ | refine wpl_store S2 rfl rfl rfl (by rw [← hB]; rfl) rfl ?_)
          refine (gd _).mono ?_
          rintro e w3 ⟨rfl, G3⟩
          have bel3 := bel2.trans (G3.mono bel2.size)
          clear gd S2 L2 L1 bel2 G3
          go_wp2
          go_roundw
          case rel => exact ⟨k + 1, by omega, by go_num, NX, bel3⟩
          case measure => simp [intOf]; omega
      · have l1 : ¬ (k : Int) < (n : Int) := by omega
        have E : r = true := by rw [← HQ.out]; exact HG.out.all (by have := HN.out; omega)
        subst E
        go_wp2
        go_ret
        exact ⟨rfl, bel⟩
  · rw [show decide (n ≤ 32) = false from decide_eq_false h32, Bool.false_and]
    have l0 : (32 : Int) < (n : Int) := by omega
    go_enter Tryd.func28, Tryd.ntmps28
    go_wp2
    go_ret
    exact ⟨rfl, Below.refl _ _⟩
theorem sum_reach {xs : List Fi.Fd} (h : Fi.Reach xs) : ∀ k : Nat, k ≤ xs.length → sumF (xs.take k) ≤ k * 281474976710660
  | 0, _ => by simp [sumF]
  | k + 1, hk => by
    have ih := sum_reach h k (by omega)
    have hx : xs[k]? = some (xs[k]'(by omega)) := List.getElem?_eq_getElem _
    obtain ⟨r1, r2⟩ := h _ (List.mem_of_getElem? hx)
    rw [sum_take hx]
    omega
set_option maxHeartbeats 4000000 in
theorem size_any {w : World} {v : Value} {xs : List Fi.Fd} (st : ByteArray) (hv : FdsAt w v xs) (hs : st.size ≤ 1048576) (hl : xs.length ≤ 60) (hr : Fi.Reach xs) :
    Calls Tryd.prog 29 #[.string st, v] w fun e w' => e = .returned (.int .i64 ((headF (ls st) xs).length : Nat)) ∧ Below w.heap.size w w' := by
  obtain ⟨base, cap, rfl, _, _⟩ := hv.is
  rw [head_sum, ls_len]
  have HV := Lib.hid hv
  have HR := Lib.hid hr
  clear hv hr
  obtain ⟨n, hn⟩ : ∃ n, n = xs.length := ⟨_, rfl⟩
  rw [← hn] at HV hl ⊢
  have HN := Lib.hid hn
  clear hn
  obtain ⟨S, hS⟩ : ∃ S, sumF xs = S := ⟨_, rfl⟩
  rw [hS]
  have HS := Lib.hid hS
  clear hS
  go_enter Tryd.func29, Tryd.ntmps29
  go_wp2
  go_loopw [5, 14] (fun s i wr => ∃ k T : Nat, k ≤ n ∧ i = .int .i64 k ∧ s = .int .i64 T ∧ Hid (T = st.size + 4 + sumF (xs.take k)) ∧ T ≤ 1048580 + k * 281474976710660 ∧ Below w.heap.size w wr) (fun _ i _ => n - (intOf i).toNat)
  case atStart => exact ⟨0, st.size + 4, Nat.zero_le _, rfl, by go_num, Lib.hid (by simp [sumF]), by omega, Below.refl _ _⟩
  case round =>
    obtain ⟨k, T, hk, rfl, rfl, HT, hT, bel⟩ := hrel
    by_cases hlt : k < n
    · have l1 : (k : Int) < (n : Int) := by omega
      obtain ⟨x, hx⟩ : ∃ x, xs[k]? = some x := ⟨xs[k]'(by have := HN.out; omega), List.getElem?_eq_getElem _⟩
      obtain ⟨a, rfl, ha, L1, _, _⟩ := (HV.out.below bel).loads hx
      obtain ⟨r1, r2⟩ := HR.out x (List.mem_of_getElem? hx)
      obtain ⟨w2, S2, A2, G2, Z2⟩ := fd_keep wr x
      have c0 : w2.cell? ⟨wr.heap.size, 0, none⟩ = some (.string x.n) := A2.cell 0
      have c1 : w2.cell? ⟨wr.heap.size, 1, none⟩ = some (.string x.v) := A2.cell 1
      have bel2 := bel.trans (G2.mono bel.size)
      have NX := Lib.hid (show T + (x.n.size + 2 + x.v.size + 2) = st.size + 4 + sumF (xs.take (k + 1)) by rw [sum_take hx, HT.out]; omega)
      have HX := Lib.hid hx
      clear hx bel G2 Z2 A2 HT
      generalize hB : wr.heap.size = B at S2 c0 c1
      go_wp2_with (first | refine wpl_load L1 rfl rfl rfl ?_ | refine wpl_store S2 rfl rfl rfl (by rw [← hB]; rfl) rfl ?_)
      go_roundw
      case rel => exact ⟨k + 1, T + (x.n.size + 2 + x.v.size + 2), by omega, by go_num, by go_num, NX, by omega, bel2⟩
      case measure => simp [intOf]; omega
    · have l1 : ¬ (k : Int) < (n : Int) := by omega
      have E : T = st.size + 4 + S := by rw [HT.out, List.take_of_length_le (by have := HN.out; omega), HS.out]
      go_wp2
      go_ret
      exact ⟨rfl, bel⟩
end Go.Proofs.YtdldoklkenhopaaDoor.Ou
