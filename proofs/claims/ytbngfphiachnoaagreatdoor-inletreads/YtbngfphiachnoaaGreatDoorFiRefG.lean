/-
  Contract of Get of the document's answers.
-/
import Derived.Test.YtbngfphiachnoaaGreatDoorFiRefA
namespace Go.Proofs.YtbngfphiachnoaaGreatDoor.Fi
open Go.RowKit Go.PlainAid
open Hx
set_option linter.unusedVariables false
set_option maxRecDepth 20000
set_option linter.unusedSimpArgs false

theorem low_beq (a b : ByteArray) : ((tx (low (ls a))).toList == (tx (low (ls b))).toList) = sameL (ls a) (ls b) := by
  unfold sameL
  rw [ls_toList, ls_toList, ls_tx, ls_tx]
theorem vals_head (l : List ByteArray) (s : ByteArray) : (((l ++ [s])[0]?).getD ⟨#[]⟩) = if l.length = 0 then s else ((l[0]?).getD ⟨#[]⟩) := by
  cases l with
  | nil => rfl
  | cons a l => rfl
theorem add_next (a : Addr) (k : Nat) : ({ (a.add (k * 2)) with off := (a.add (k * 2)).off + 1, spot := none } : Addr) = a.add (k * 2 + 1) := by
  simp only [Addr.add]; split <;> simp_all <;> omega
set_option maxHeartbeats 2000000 in
theorem refGet_any {w : World} {v : Value} {xs : List Fd} (name : ByteArray) (hv : FdsAt w v xs) (hl : xs.length ≤ 1000000) (hz : name.size ≤ 140737488355328) (hr : ∀ x ∈ xs, x.n.size ≤ 1099511627776) (hz2 : name.size ≤ 1099511627776) :
    Calls Tryz.prog 28 #[v, .string name] w fun e w' => e = .returned (.tuple #[.string (getS (ls name) xs), .int .i64 (getN (ls name) xs)]) ∧ Below w.heap.size w w' := by
  obtain ⟨base, cap, rfl, _, _⟩ := hv.is
  have HV := Lib.hid hv
  have HR := Lib.hid hr
  clear hv hr
  obtain ⟨n, hn⟩ : ∃ n, n = xs.length := ⟨_, rfl⟩
  rw [← hn] at HV hl ⊢
  have HN := Lib.hid hn
  clear hn
  have lo := fun w => refLow_any name w hz2
  go_enter Tryz.func28, Tryz.ntmps28
  go_wp2
  go_loopw [6, 7, 8] (fun sv c i wr => ∃ (k m : Nat) (S : ByteArray), k ≤ n ∧ m ≤ k ∧ sv = .string S ∧ c = .int .i64 m ∧ i = .int .i64 k ∧ Hid (m = getN (ls name) (xs.take k)) ∧ Hid (S = getS (ls name) (xs.take k)) ∧ Below w.heap.size w wr) (fun _ _ i _ => n - (intOf i).toNat)
  case atStart => exact ⟨0, 0, _, Nat.zero_le _, Nat.le_refl _, rfl, rfl, rfl, Lib.hid rfl, Lib.hid rfl, Below.refl _ _⟩
  case round =>
    obtain ⟨k, m, S, hk, hm, rfl, rfl, rfl, HM, HS, bel⟩ := hrel
    by_cases hlt : k < n
    · obtain ⟨x, hx⟩ : ∃ x, xs[k]? = some x := ⟨xs[k]'(by have := HN.out; omega), List.getElem?_eq_getElem _⟩
      obtain ⟨a, rfl, ha, _, c0, c1⟩ := (HV.out.below bel).loads hx
      have rx := HR.out x (List.mem_of_getElem? hx)
      have l1 : (k : Int) < (n : Int) := by omega
      have lx := fun w => refLow_any x.n w rx
      have q := low_beq x.n name
      generalize tx (low (ls x.n)) = LX at lx q
      generalize hLN : tx (low (ls name)) = LN at lo q
      have HLN := Lib.hid hLN
      clear hLN
      have C1 := Lib.hid (show ∀ w2, Below wr.heap.size wr w2 → w2.cell? { (a.add (k * 2)) with off := (a.add (k * 2)).off + 1, spot := none } = some (.string x.v) from fun w2 hb => by
        obtain ⟨a', e, _, _, _, c1'⟩ := (HV.out.below (bel.trans (hb.mono bel.size))).loads hx
        injection e with e
        subst e
        rw [add_next]
        exact c1')
      cases hs : sameL (ls x.n) (ls name) with
      | false =>
        rw [hs] at q
        have E := Lib.hid (valsF_no hx hs)
        clear hx hs c1
        go_wp2_with fail
        refine (lx _).mono ?_
        rintro e w2 ⟨rfl, G2⟩
        clear lx c0
        go_wp2_with fail
        refine (lo _).mono ?_
        rintro e w3 ⟨rfl, G3⟩
        have bel3 := bel.trans ((G2.trans (G3.mono G2.size)).mono bel.size)
        clear G2 G3 bel C1 lo
        go_wp2
        go_roundw
        case rel => exact ⟨k + 1, m, S, by omega, by omega, rfl, rfl, by go_num, Lib.hid (by rw [HM.out]; unfold getN; rw [E.out]), Lib.hid (by rw [HS.out]; unfold getS; rw [E.out]), bel3⟩
        case measure => simp [intOf]; omega
      | true =>
        rw [hs] at q
        have E := Lib.hid (valsF_yes hx hs)
        clear hx hs c1
        go_wp2_with fail
        refine (lx _).mono ?_
        rintro e w2 ⟨rfl, G2⟩
        clear lx c0
        go_wp2_with fail
        refine (lo _).mono ?_
        rintro e w3 ⟨rfl, G3⟩
        have bel3 := bel.trans ((G2.trans (G3.mono G2.size)).mono bel.size)
        have c1 := C1.out _ (G2.trans (G3.mono G2.size))
        clear G2 G3 bel C1 lo
        have HN1 : Hid (m + 1 = getN (ls name) (xs.take (k + 1))) := Lib.hid (by unfold getN; rw [E.out, List.length_append, HM.out]; rfl)
        have HS1 : Hid ((if m = 0 then x.v else S) = getS (ls name) (xs.take (k + 1))) := Lib.hid (by
          have hm1 := HM.out
          unfold getN at hm1
          unfold getS
          rw [E.out, vals_head, ← hm1, HS.out]; rfl)
        by_cases h0 : m = 0
        · rw [if_pos h0] at HS1
          have g : ((m : Int) == 0) = true := by rw [h0]; rfl
          clear h0
          go_wp2
          go_roundw
          case rel => exact ⟨k + 1, m + 1, x.v, by omega, by omega, rfl, by go_num, by go_num, HN1, Lib.hid HS1.out, bel3⟩
          case measure => simp [intOf]; omega
        · rw [if_neg h0] at HS1
          have g : ((m : Int) == 0) = false := by rw [beq_eq_false_iff_ne]; omega
          clear h0
          go_wp2
          go_roundw
          case rel => exact ⟨k + 1, m + 1, S, by omega, by omega, rfl, by go_num, by go_num, HN1, Lib.hid HS1.out, bel3⟩
          case measure => simp [intOf]; omega
    · have l1 : ¬ (k : Int) < (n : Int) := by omega
      have E := Lib.hid (show xs.take k = xs from List.take_of_length_le (by have := HN.out; omega))
      have e1 := HM.out
      have e2 := HS.out
      rw [E.out] at e1 e2
      have E1 := Lib.hid e1
      have E2 := Lib.hid e2
      clear e1 e2
      go_wp2
      go_ret2
      exact ⟨by rw [← E1.out, ← E2.out]; rfl, bel⟩
end Go.Proofs.YtbngfphiachnoaaGreatDoor.Fi
