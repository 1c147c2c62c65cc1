/-
  Contract of unquoted of the document's answers.
-/
import Derived.Test.YtdimjeajgmlfkaaDoorFiRefA
import Derived.Test.YtdimjeajgmlfkaaDoorFiRefT
import Derived.Test.YtdimjeajgmlfkaaDoorFiPar
namespace Go.Proofs.YtdimjeajgmlfkaaDoor.Fi
open Go.RowKit Go.PlainAid
open Hx
set_option linter.unusedVariables false
set_option maxRecDepth 20000
set_option linter.unusedSimpArgs false

theorem valF_tok {l : List UInt8} (h : isTok l = true) : valF l = some l := by unfold valF; rw [if_pos h]
theorem valF_quo {l : List UInt8} (h : isTok l = false) : valF l = quoF l := by unfold valF; rw [if_neg (by rw [h]; simp)]
theorem quoF_short {l : List UInt8} (h : l.length < 2) : quoF l = none := by
  cases l with
  | nil => rfl
  | cons c l =>
    have : l = [] := List.eq_nil_of_length_eq_zero (by rw [List.length_cons] at h; omega)
    subst this
    show (if c = 34 then uqF [] [] else none) = none
    rw [uqF_nil]; split <;> rfl
theorem quoF_no {l : List UInt8} {c : UInt8} (h : c ≠ 34) : quoF (c :: l) = none := by
  show (if c = 34 then uqF l [] else none) = none
  rw [if_neg h]
theorem quoF_yes (l : List UInt8) : quoF (34 :: l) = uqF l [] := by
  show (if (34 : UInt8) = 34 then uqF l [] else none) = _
  rw [if_pos rfl]
def RuPost (R : Option (List UInt8)) (w : World) (e : Ending) (w' : World) : Prop := ∃ T, e = .returned (.tuple #[.string T, .bool R.isSome]) ∧ (∀ x, R = some x → T = tx x) ∧ Below w.heap.size w w'
theorem ru_none {R : Option (List UInt8)} {w w' : World} {T : ByteArray} (h : R = none) (hb : Below w.heap.size w w') : RuPost R w (.returned (.tuple #[.string T, .bool false])) w' := by
  subst h; exact ⟨T, rfl, fun x h => (by cases h), hb⟩
theorem ru_some {R : Option (List UInt8)} {w w' : World} {T : ByteArray} {x : List UInt8} (h : R = some x) (hT : T = tx x) (hb : Below w.heap.size w w') : RuPost R w (.returned (.tuple #[.string T, .bool true])) w' := by
  subst h; exact ⟨T, rfl, fun y h => (by cases h; exact hT), hb⟩
set_option maxRecDepth 200000 in
set_option maxHeartbeats 4000000 in
theorem refUnquoted_any (s : ByteArray) (w : World) (hs : s.size ≤ 1099511627776) :
    Calls Tryd.prog 52 #[.string s] w (RuPost (valF (ls s)) w) := by
  have tk := refIsToken_any s w (by omega)
  cases ht : isTok (ls s) with
  | true =>
    have V := Lib.hid (valF_tok ht)
    rw [ht] at tk
    clear ht
    go_enter Tryd.func52, Tryd.ntmps52
    go_wp2_with fail
    refine tk.mono ?_
    rintro e w2 ⟨rfl, rfl⟩
    clear tk
    go_wp2
    go_ret2
    exact ru_some V.out (tx_ls s).symm (Below.refl _ _)
  | false =>
    rw [valF_quo ht]
    rw [ht] at tk
    clear ht
    by_cases h2 : s.size < 2
    · have V := Lib.hid (quoF_short (l := ls s) (by rw [ls_len]; exact h2))
      have h2' : (s.size : Int) < 2 := by omega
      clear h2
      go_enter Tryd.func52, Tryd.ntmps52
      go_wp2_with fail
      refine tk.mono ?_
      rintro e w2 ⟨rfl, rfl⟩
      clear tk
      go_wp2
      go_ret2
      exact ru_none V.out (Below.refl _ _)
    have h2' : ¬ (s.size : Int) < 2 := by omega
    have hg := get_bt s
    obtain ⟨c0, -, ec0, -, -, dc0⟩ := get_ls (s := s) (k := 0) (by omega)
    rw [List.drop_zero, Nat.zero_add] at dc0
    by_cases q34 : bt s 0 = 34
    · have hc34 : c0 = 34 := (byte_eq c0 34).1 (by rw [← ec0, q34]; rfl)
      have gq : (bt s 0 != 34) = false := by rw [q34]; rfl
      obtain ⟨i0, hi, hz0, hz1, hz2⟩ := info_parts info5
      rw [dc0, hc34, quoF_yes]
      generalize hR : uqF ((ls s).drop 1) [] = R
      have HR := Lib.hid (show UqInv s R 1 [] from hR)
      clear hR dc0 ec0 hc34 q34
      have own0 : (w.alloc (.cells #[] 5)).ownsRow w.heap.size 5 1 (.slice (some ⟨w.heap.size, 0, none⟩) 0 0) 0 [] := World.ownsRow_made w #[] 0 (Nat.le_refl _) (Nat.zero_le _) rfl
      have bel0 : Below w.heap.size w (w.alloc (.cells #[] 5)) := (Below.refl _ _).alloc (Nat.le_refl _) _
      have l0 : (0 : Int) < (s.size : Int) := by omega
      go_enter Tryd.func52, Tryd.ntmps52
      go_wp2_with fail
      refine tk.mono ?_
      rintro e w2 ⟨rfl, rfl⟩
      clear tk
      go_wp2
      go_loopw [4, 5] (fun v i wr => ∃ (k m : Nat) (acc : List UInt8) (b : Option Addr) (c : Nat), 1 ≤ k ∧ k ≤ s.size ∧ m ≤ k ∧ i = .int .i64 k ∧ v = .slice b m c ∧ Hid (m = acc.length) ∧ wr.ownsRow w.heap.size 5 1 (.slice b m c) m (bytesV acc) ∧ Below w.heap.size w wr ∧ Hid (UqInv s R k acc)) (fun _ i _ => s.size - (intOf i).toNat)
      case atStart => exact ⟨1, 0, [], _, _, Nat.le_refl _, by omega, by omega, rfl, rfl, Lib.hid rfl, own0, bel0, HR⟩
      case round =>
        clear own0 bel0 HR gq
        obtain ⟨k, m, acc, b, c, hk1, hk, hm, rfl, rfl, HM, own, bel, INV⟩ := hrel
        have hN := bel.size
        by_cases hlt : k < s.size
        · have l1 : (k : Int) < (s.size : Int) := by omega
          obtain ⟨x, _, ex, _, _, dx⟩ := get_ls hlt
          by_cases p34 : bt s k = 34
          · have hx : x = 34 := (byte_eq x 34).1 (by rw [← ex, p34]; rfl)
            have g34 : (bt s k == 34) = true := by rw [p34]; rfl
            have CV := conv_row (n := m) own
            by_cases hend : k + 1 = s.size
            · have hz : (k : Int) = (s.size : Int) - 1 := by omega
              have hR : R = some acc := by
                have := INV.out
                unfold UqInv at this
                rw [← this, dx, hx, List.drop_of_length_le (by rw [ls_len]; omega), uqF_end]
              have Q := Lib.hid hR
              have hl2 : ((k : Int) == (s.size : Int) - 1) = true := by rw [← hz]; simp
              clear dx ex hx p34 INV hend hR hz own
              go_wp2
              go_ret2
              exact ru_some Q.out rfl bel
            · have hR : R = none := by
                have := INV.out
                unfold UqInv at this
                rw [← this, dx, hx, uqF_quote acc (fun e => by
                  have := congrArg List.length e
                  rw [List.length_drop, ls_len] at this
                  simp at this; omega)]
              have Q := Lib.hid hR
              have hl2 : ((k : Int) == (s.size : Int) - 1) = false := by rw [beq_eq_false_iff_ne]; omega
              clear dx ex hx p34 INV hend hR own
              go_wp2
              go_ret2
              exact ru_none Q.out bel
          have g34 : (bt s k == 34) = false := beq_eq_false_iff_ne.2 p34
          by_cases p92 : bt s k = 92
          · have hx : x = 92 := (byte_eq x 92).1 (by rw [← ex, p92]; rfl)
            have g92 : (bt s k == 92) = true := by rw [p92]; rfl
            by_cases hend : k + 1 < s.size
            · obtain ⟨y, _, ey, _, _, dy⟩ := get_ls hend
              have I2 := Lib.hid (show UqInv s R (k + 2) (acc ++ [y]) from by
                have := INV.out
                unfold UqInv at this ⊢
                rw [← this, dx, hx, dy, uqF_esc])
              have hl3 : (k : Int) + 1 < (s.size : Int) := by omega
              have hl4 : ¬ (s.size : Int) ≤ (k : Int) + 1 := by omega
              have EY := Lib.hid ey
              clear dx ex hx p34 p92 INV dy ey
              go_wp2_with (at_builtin; refine wpList_append_own _ rfl _ _ 62 rfl w.heap.size 5 i0 (.int .u8 0) 1 1 Tryd.underlying62 hi hz0 hz1 hz2 rfl (by decide) _ _ _ rfl (own.alloc _) ⟨wr.heap.size, 0, none⟩ 1 1 [_] rfl rfl (new_byte wr _) (by intro u hu; simp at hu; subst hu; rfl) (by unfold maxLen; omega) (by omega) (by simp; omega) ?_; intro v' w4 own4 hgrow hcb)
              have own5 : w4.ownsRow w.heap.size 5 1 v' (m + 1) (bytesV (acc ++ [y])) := by
                rw [← bytesV_snoc, ← EY.out]
                exact own4
              have bel5 := (bel.alloc hN (.cells #[.int .u8 (bt s (k + 1))] 5)).grown hgrow (by simp; omega) (fun j hj => (own.lt j hj).1)
              clear own4 own hgrow bel
              obtain ⟨b', c', rfl⟩ := own_shape own5
              go_roundw
              case rel => exact ⟨k + 2, m + 1, acc ++ [y], b', c', by omega, by omega, by omega, by go_num, rfl, Lib.hid (by rw [List.length_append, ← HM.out]; rfl), own5, bel5, I2⟩
              case measure => simp [intOf]; omega
            · have hR : R = none := by
                have := INV.out
                unfold UqInv at this
                rw [← this, dx, hx, List.drop_of_length_le (by rw [ls_len]; omega), uqF_last]
              have Q := Lib.hid hR
              have hl4 : (s.size : Int) ≤ (k : Int) + 1 := by omega
              clear dx hx p34 p92 INV ex hR
              go_wp2
              go_ret2
              exact ru_none Q.out bel
          · have g92 : (bt s k == 92) = false := beq_eq_false_iff_ne.2 p92
            have I2 := Lib.hid (show UqInv s R (k + 1) (acc ++ [x]) from by
              have := INV.out
              unfold UqInv at this ⊢
              rw [← this, dx, uqF_else _ _ (fun e => p34 (by rw [ex, e]; rfl)) (fun e => p92 (by rw [ex, e]; rfl))])
            have EX := Lib.hid ex
            clear dx p34 p92 INV ex
            go_wp2_with (at_builtin; refine wpList_append_own _ rfl _ _ 62 rfl w.heap.size 5 i0 (.int .u8 0) 1 1 Tryd.underlying62 hi hz0 hz1 hz2 rfl (by decide) _ _ _ rfl (own.alloc _) ⟨wr.heap.size, 0, none⟩ 1 1 [_] rfl rfl (new_byte wr _) (by intro u hu; simp at hu; subst hu; rfl) (by unfold maxLen; omega) (by omega) (by simp; omega) ?_; intro v' w4 own4 hgrow hcb)
            have own5 : w4.ownsRow w.heap.size 5 1 v' (m + 1) (bytesV (acc ++ [x])) := by
              rw [← bytesV_snoc, ← EX.out]
              exact own4
            have bel5 := (bel.alloc hN (.cells #[.int .u8 (bt s k)] 5)).grown hgrow (by simp; omega) (fun j hj => (own.lt j hj).1)
            clear own4 own hgrow bel
            obtain ⟨b', c', rfl⟩ := own_shape own5
            go_roundw
            case rel => exact ⟨k + 1, m + 1, acc ++ [x], b', c', by omega, by omega, by omega, by go_num, rfl, Lib.hid (by rw [List.length_append, ← HM.out]; rfl), own5, bel5, I2⟩
            case measure => simp [intOf]; omega
        · have l1 : ¬ (k : Int) < (s.size : Int) := by omega
          have hR : R = none := by
            have := INV.out
            unfold UqInv at this
            rw [← this, List.drop_of_length_le (by rw [ls_len]; omega), uqF_nil]
          have Q := Lib.hid hR
          clear INV hR
          go_wp2
          go_ret2
          exact ru_none Q.out bel
    · have V : Hid (quoF (ls s) = none) := Lib.hid (by
        rw [dc0]; exact quoF_no (fun e => q34 (by rw [ec0, e]; rfl)))
      have gq : (bt s 0 != 34) = true := by rw [bne_iff_ne]; exact q34
      have l0 : (0 : Int) < (s.size : Int) := by omega
      clear dc0 ec0 q34
      go_enter Tryd.func52, Tryd.ntmps52
      go_wp2_with fail
      refine tk.mono ?_
      rintro e w2 ⟨rfl, rfl⟩
      clear tk
      go_wp2
      go_ret2
      exact ru_none V.out (Below.refl _ _)
end Go.Proofs.YtdimjeajgmlfkaaDoor.Fi
