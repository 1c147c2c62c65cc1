/-
  Contract of headOf of package outlet. Conditions: at most 60 fields, whose texts are within the form's reach; a start of at most 2^20 bytes.
-/
import Derived.Test.YtdldoklkenhopaaDoorOuHead
namespace Go.Proofs.YtdldoklkenhopaaDoor.Ou
open Go.RowKit Go.PlainAid
open Hx Fi Ch In
set_option linter.unusedVariables false
set_option maxRecDepth 20000
set_option linter.unusedSimpArgs false

theorem lay_bad {st : List UInt8} {xs : List Fi.Fd} (h : (decide (xs.length ≤ 32) && xs.all goodF) = false) : layE st xs = 1 ∧ layS st xs = ⟨#[]⟩ := by
  rw [Bool.and_eq_false_iff] at h
  rcases h with h | h
  · exact lay_many (by have := of_decide_eq_false h; omega)
  · rw [List.all_eq_false] at h
    obtain ⟨f, hf, hg⟩ := h
    exact lay_form hf (by simpa using hg)
/-- what the writer holds behind k fields -/
def outTo (st : List UInt8) (xs : List Fi.Fd) (k : Nat) : List UInt8 := st ++ 13 :: 10 :: linesF (xs.take k)
theorem out_zero (st : List UInt8) (xs : List Fi.Fd) : outTo st xs 0 = [] ++ (st ++ [13, 10]) := by simp [outTo, linesF]
theorem out_succ (st : List UInt8) {xs : List Fi.Fd} {k : Nat} {x : Fi.Fd} (h : xs[k]? = some x) : outTo st xs (k + 1) = outTo st xs k ++ (printF x ++ [13, 10]) := by
  unfold outTo
  rw [lines_take h]
  simp
theorem out_all (st : List UInt8) {xs : List Fi.Fd} {k : Nat} (h : xs.length ≤ k) : outTo st xs k ++ [13, 10] = headF st xs := by
  unfold outTo headF
  rw [List.take_of_length_le h]
  simp
theorem out_len (st : List UInt8) (xs : List Fi.Fd) (k : Nat) : (outTo st xs k).length + 2 ≤ (headF st xs).length := by
  rw [head_sum]
  unfold outTo
  have := sum_take_le xs k
  simp only [List.length_append, List.length_cons, lines_sum]
  omega
theorem out_next (st : List UInt8) {xs : List Fi.Fd} {k : Nat} {x : Fi.Fd} (h : xs[k]? = some x) : (outTo st xs k).length + (printF x).length + 4 ≤ (headF st xs).length := by
  have h1 := out_len st xs (k + 1)
  rw [out_succ st h] at h1
  simp only [List.length_append, List.length_cons, List.length_nil] at h1
  omega
set_option maxHeartbeats 4000000 in
theorem head_any {w : World} {v : Value} {xs : List Fi.Fd} (st : ByteArray) (hv : FdsAt w v xs) (hs : st.size ≤ 1048576) (hl : xs.length ≤ 60) (hr : Fi.Reach xs) :
    Calls Tryd.prog 16 #[.string st, v] w fun e w' => e = .returned (.tuple #[.string (layS (ls st) xs), .int .i64 (layE (ls st) xs)]) ∧ Below w.heap.size w w' := by
  obtain ⟨base, cap, rfl, _, _⟩ := hv.is
  have cn := can_any hv hl hr
  obtain ⟨r, hq⟩ : ∃ r, (decide (xs.length ≤ 32) && xs.all goodF) = r := ⟨_, rfl⟩
  rw [hq] at cn
  cases r with
  | false =>
    obtain ⟨e1, e2⟩ := lay_bad (st := ls st) hq
    rw [e1, e2]
    clear e1 e2 hq hv hr
    go_enter Tryd.func16, Tryd.ntmps16
    go_wp2_with fail
    refine cn.mono ?_
    rintro e w1 ⟨rfl, F1⟩
    go_wp2
    go_ret2
    exact ⟨rfl, F1⟩
  | true =>
    rw [Bool.and_eq_true] at hq
    obtain ⟨q1, q2⟩ := hq
    have q3 : xs.length ≤ 32 := of_decide_eq_true q1
    have sz := fun (z : World) (b : Below w.heap.size w z) => size_any (w := z) st (hv.below b) hs hl hr
    obtain ⟨T, hT⟩ : ∃ T, (headF (ls st) xs).length = T := ⟨_, rfl⟩
    rw [hT] at sz
    by_cases h4 : 4096 < T
    · obtain ⟨e1, e2⟩ := lay_long (st := ls st) q3 (List.all_eq_true.1 q2) (by omega)
      rw [e1, e2]
      have i1 : (4096 : Int) < (T : Int) := by omega
      clear e1 e2 q1 q2 q3 hv hr hT h4
      go_enter Tryd.func16, Tryd.ntmps16
      go_wp2_with fail
      refine cn.mono ?_
      rintro e w1 ⟨rfl, F1⟩
      have s1 := sz _ F1
      go_wp2_with fail
      refine s1.mono ?_
      rintro e w2 ⟨rfl, F2⟩
      replace F1 := F1.trans (F2.mono F1.size)
      clear s1 sz F2 cn
      go_wp2
      go_ret2
      exact ⟨rfl, F1⟩
    · obtain ⟨e1, e2⟩ := lay_good (st := ls st) q3 (List.all_eq_true.1 q2) (by omega)
      rw [e1, e2]
      have i1 : ¬ (4096 : Int) < (T : Int) := by omega
      obtain ⟨H, hH⟩ : ∃ H, tx (headF (ls st) xs) = H := ⟨_, rfl⟩
      rw [hH]
      have HH := Lib.hid hH
      have HT := Lib.hid hT
      have HV := Lib.hid hv
      have HR := Lib.hid hr
      have z1 : (⟨#[13, 10]⟩ : ByteArray).size = 2 := rfl
      have Z0 := Lib.hid (out_zero (ls st) xs)
      have e0 : ls (st ++ (⟨#[13, 10]⟩ : ByteArray)) = ls st ++ [13, 10] := by rw [ls_append]; rfl
      have E0 := Lib.hid e0
      clear e1 e2 q1 q2 q3 hv hr hT hH e0
      obtain ⟨n, hn⟩ : ∃ n, n = xs.length := ⟨_, rfl⟩
      rw [← hn] at HV hl cn sz ⊢
      have HN := Lib.hid hn
      clear hn
      go_enter Tryd.func16, Tryd.ntmps16
      go_wp2_with fail
      refine cn.mono ?_
      rintro e w1 ⟨rfl, F1⟩
      have s1 := sz _ F1
      go_wp2_with fail
      refine s1.mono ?_
      rintro e w2 ⟨rfl, F2⟩
      replace F1 := F1.trans (F2.mono F1.size)
      clear s1 sz F2 cn
      have W0 : Wr (w2.alloc (.cells #[.pointer none, .slice none 0 0] 59)) w2.heap.size (w2.heap.size + 1) [] :=
        ⟨by omega, by simp, .pointer none, .slice none 0 0, .inl rfl, heap_alloc_new w2 _, ⟨rfl, .inl ⟨rfl, rfl⟩⟩⟩
      have B0 := F1.alloc F1.size (.cells #[.pointer none, .slice none 0 0] 59)
      have hB := F1.size
      clear F1
      go_upto_region 6 with (fail)
      generalize w2.alloc (.cells #[.pointer none, .slice none 0 0] 59) = w3 at W0 B0 ⊢
      generalize w2.heap.size = B at W0 hB ⊢
      have c1 := string_any W0 (st ++ ⟨#[13, 10]⟩) (by rw [ByteArray.size_append, z1]; simp; omega)
      go_wp2_with fail
      refine c1.mono ?_
      rintro e w4 ⟨rfl, W1, k1⟩
      have B1 := k1.below B0 (by omega) hB
      rw [E0.out, ← Z0.out] at W1
      clear c1 k1 B0 W0 Z0 E0
      go_wp2
      go_loopw [21] (fun i wr => ∃ k : Nat, k ≤ n ∧ i = .int .i64 k ∧ Wr wr B (B + 1) (outTo (ls st) xs k) ∧ Below w.heap.size w wr) (fun i _ => n - (intOf i).toNat)
      case atStart => exact ⟨0, Nat.zero_le _, rfl, W1, B1⟩
      case round =>
        clear W1 B1
        obtain ⟨k, hk, rfl, W, bel⟩ := hrel
        by_cases hlt : k < n
        · have l1 : (k : Int) < (n : Int) := by omega
          obtain ⟨x, hx⟩ : ∃ x, xs[k]? = some x := ⟨xs[k]'(by have := HN.out; omega), List.getElem?_eq_getElem _⟩
          obtain ⟨a, rfl, ha, L1, _, _⟩ := (HV.out.below bel).loads hx
          obtain ⟨r1, r2⟩ := HR.out x (List.mem_of_getElem? hx)
          obtain ⟨wz, S2, A2, G2, Z2⟩ := fd_keep wr x
          have L2 := fd_loads A2
          have bel2 := bel.trans (G2.mono bel.size)
          have W2 := W.below G2 (Nat.le_refl _)
          have pr := fun w => print_any x w (by omega) (by omega)
          have hno := out_next (ls st) hx
          have hsz : (tx (printF x)).size ≤ 4096 := by rw [tx_size]; have := HT.out; omega
          have NX := Lib.hid (out_succ (ls st) hx)
          have e0 : ls (tx (printF x) ++ (⟨#[13, 10]⟩ : ByteArray)) = printF x ++ [13, 10] := by rw [ls_append, ls_tx]; rfl
          have E0 := Lib.hid e0
          have hw := W.hi
          have ol : (outTo (ls st) xs k).length ≤ 4096 := by have := HT.out; omega
          clear hx bel G2 Z2 A2 r1 r2 e0 hno W
          generalize hB : wr.heap.size = C at S2 L2 hw
          generalize tx (printF x) = P at pr hsz E0
          go_wp2_with (first | refine wpl_load L1 rfl rfl rfl ?_ | refine wpl_load L2 rfl rfl rfl ?_ | refine wpl_store S2 rfl rfl rfl (by rw [← hB]; rfl) rfl ?_)
          refine (pr _).mono ?_
          rintro e w5 ⟨rfl, G3⟩
          have bel3 := bel2.trans (G3.mono bel2.size)
          have W3 := W2.below G3 (Nat.le_refl _)
          clear pr S2 L2 L1 bel2 W2 G3
          have c2 := string_any W3 (P ++ ⟨#[13, 10]⟩) (by rw [ByteArray.size_append, z1]; omega)
          rw [E0.out, ← NX.out] at c2
          clear E0 NX
          go_wp2_with fail
          refine c2.mono ?_
          rintro e w6 ⟨rfl, W4, k4⟩
          have B4 := k4.below bel3 (by omega) (by omega)
          clear c2 k4 bel3 W3
          go_wp2
          go_roundw
          case rel => exact ⟨k + 1, by omega, by go_num, W4, B4⟩
          case measure => simp [intOf]; omega
        · have l1 : ¬ (k : Int) < (n : Int) := by omega
          have ol := out_len (ls st) xs k
          have oa := out_all (ls st) (xs := xs) (k := k) (by have := HN.out; omega)
          have c3 := string_any W ⟨#[13, 10]⟩ (by rw [z1]; have := HT.out; omega)
          rw [show ls (⟨#[13, 10]⟩ : ByteArray) = [13, 10] from rfl, oa] at c3
          have hne : headF (ls st) xs ≠ [] := by unfold headF; simp
          have hle : (headF (ls st) xs).length ≤ 1099511627776 := by have := HT.out; omega
          have NE := Lib.hid hne
          have LE := Lib.hid hle
          clear hne hle ol oa W
          go_wp2_with fail
          refine c3.mono ?_
          rintro e w6 ⟨rfl, W4, k4⟩
          have B4 := k4.below bel (by omega) (by omega)
          have c4 := text_any W4 NE.out LE.out
          rw [HH.out] at c4
          clear c3 k4 bel W4
          go_wp2_with fail
          refine c4.mono ?_
          rintro e w7 ⟨rfl, W5, k5⟩
          have B5 := k5.below B4 (by omega) (by omega)
          clear c4 k5 B4 W5
          go_wp2
          go_ret2
          exact ⟨rfl, B5⟩
end Go.Proofs.YtdldoklkenhopaaDoor.Ou
