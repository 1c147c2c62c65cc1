/-
  Contracts of IsToken and Low of the document's answers.
-/
import Derived.Test.YtbngfphiachnoaaGreatDoorSet7
import Derived.Test.YtbngfphiachnoaaGreatDoorFiRef
namespace Go.Proofs.YtbngfphiachnoaaGreatDoor.Fi
open Go.RowKit Go.PlainAid
open Hx
set_option linter.unusedVariables false
set_option maxRecDepth 20000
set_option linter.unusedSimpArgs false

theorem low_snoc {s : ByteArray} {k : Nat} {x : UInt8} (h : (ls s)[k]? = some x) : low ((ls s).take (k + 1)) = low ((ls s).take k) ++ [lowB x] := by
  rw [List.take_add_one, h]; simp [low]
set_option maxRecDepth 200000 in
set_option maxHeartbeats 2000000 in
theorem refLow_any (s : ByteArray) (w : World) (hs : s.size ≤ 1099511627776) :
    Calls Tryz.prog 55 #[.string s] w fun e w' => e = .returned (.string (tx (low (ls s)))) ∧ Below w.heap.size w w' := by
  have hg := get_bt s
  obtain ⟨i0, hi, hz0, hz1, hz2⟩ := info_parts info5
  have own0 : (w.alloc (.cells #[] 5)).ownsRow w.heap.size 5 1 (.slice (some ⟨w.heap.size, 0, none⟩) 0 0) 0 [] := World.ownsRow_made w #[] 0 (Nat.le_refl _) (Nat.zero_le _) rfl
  have bel0 : Below w.heap.size w (w.alloc (.cells #[] 5)) := (Below.refl _ _).alloc (Nat.le_refl _) _
  go_enter Tryz.func55, Tryz.ntmps55
  go_wp2
  go_loopw [3, 4] (fun v i wr => ∃ (k : Nat) (b : Option Addr) (c : Nat), k ≤ s.size ∧ i = .int .i64 k ∧ v = .slice b k c ∧ wr.ownsRow w.heap.size 5 1 (.slice b k c) k (bytesV (low ((ls s).take k))) ∧ Below w.heap.size w wr) (fun _ i _ => s.size - (intOf i).toNat)
  case atStart => exact ⟨0, _, _, Nat.zero_le _, rfl, rfl, own0, bel0⟩
  case round =>
    clear own0 bel0
    obtain ⟨k, b, c, hk, rfl, rfl, own, bel⟩ := hrel
    have hN := bel.size
    by_cases hlt : k < s.size
    · have l1 : (k : Int) < (s.size : Int) := by omega
      obtain ⟨x, gx, ex, _, _, dx⟩ := get_ls hlt
      have hb0 := bt_nonneg s k
      have hb1 := bt_le s k
      have LX : ((lowB x).toNat : Int) = lowN (bt s k) := by rw [lowB_nat, ex]
      have SN := Lib.hid (low_snoc gx)
      clear gx dx ex
      by_cases q : 65 ≤ bt s k ∧ bt s k ≤ 90
      · obtain ⟨q1, q2⟩ := q
        have LX2 : ((lowB x).toNat : Int) = bt s k - 65 + 97 := by rw [LX]; unfold lowN; rw [if_pos ⟨q1, q2⟩]; omega
        have LH := Lib.hid LX2
        clear LX LX2
        go_wp2_with (at_builtin; refine wpList_append_own _ rfl _ _ 55 rfl w.heap.size 5 i0 (.int .u8 0) 1 1 Tryz.underlying55 hi hz0 hz1 hz2 rfl (by decide) _ _ _ rfl (own.alloc _) ⟨wr.heap.size, 0, none⟩ 1 1 [_] rfl rfl (new_byte wr _) (by intro u hu; simp at hu; subst hu; rfl) (by unfold maxLen; omega) (by omega) (by simp; omega) ?_; intro v' w4 own4 hgrow hcb)
        have own5 : w4.ownsRow w.heap.size 5 1 v' (k + 1) (bytesV (low ((ls s).take (k + 1)))) := by
          rw [SN.out, ← bytesV_snoc, LH.out]
          exact own4
        have bel5 := (bel.alloc hN (.cells #[.int .u8 (bt s k - 65 + 97)] 5)).grown hgrow (by simp; omega) (fun j hj => (own.lt j hj).1)
        clear own4 own hgrow bel
        obtain ⟨b', c', rfl⟩ := own_shape own5
        go_roundw
        case rel => exact ⟨k + 1, b', c', by omega, by go_num, rfl, own5, bel5⟩
        case measure => simp [intOf]; omega
      · have LX2 : ((lowB x).toNat : Int) = bt s k := by rw [LX]; unfold lowN; rw [if_neg q]
        have LH := Lib.hid LX2
        clear LX LX2
        have q' : bt s k < 65 ∨ (65 ≤ bt s k ∧ 90 < bt s k) := by omega
        clear q
        rcases q' with q | ⟨q, q2⟩
        all_goals
          go_wp2_with (at_builtin; refine wpList_append_own _ rfl _ _ 55 rfl w.heap.size 5 i0 (.int .u8 0) 1 1 Tryz.underlying55 hi hz0 hz1 hz2 rfl (by decide) _ _ _ rfl (own.alloc _) ⟨wr.heap.size, 0, none⟩ 1 1 [_] rfl rfl (new_byte wr _) (by intro u hu; simp at hu; subst hu; rfl) (by unfold maxLen; omega) (by omega) (by simp; omega) ?_; intro v' w4 own4 hgrow hcb)
          have own5 : w4.ownsRow w.heap.size 5 1 v' (k + 1) (bytesV (low ((ls s).take (k + 1)))) := by
            rw [SN.out, ← bytesV_snoc, LH.out]
            exact own4
          have bel5 := (bel.alloc hN (.cells #[.int .u8 (bt s k)] 5)).grown hgrow (by simp; omega) (fun j hj => (own.lt j hj).1)
          clear own4 own hgrow bel
          obtain ⟨b', c', rfl⟩ := own_shape own5
          go_roundw
          case rel => exact ⟨k + 1, b', c', by omega, by go_num, rfl, own5, bel5⟩
          case measure => simp [intOf]; omega
    · have l1 : ¬ (k : Int) < (s.size : Int) := by omega
      have CV := conv_row (n := k) own
      have LL := Lib.hid (show (ls s).take k = ls s from List.take_of_length_le (by rw [ls_len]; omega))
      go_wp2
      go_ret
      exact ⟨by rw [LL.out]; rfl, bel⟩
end Go.Proofs.YtbngfphiachnoaaGreatDoor.Fi
