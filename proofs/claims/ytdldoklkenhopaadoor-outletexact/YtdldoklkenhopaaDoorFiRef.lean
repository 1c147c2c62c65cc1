/-
  Contracts of IsToken, Text, Find and Low of the document's answers.
-/
import Derived.Test.YtdldoklkenhopaaDoorFiTrim2
import Derived.Test.YtdldoklkenhopaaDoorFiCut
namespace Go.Proofs.YtdldoklkenhopaaDoor.Fi
open Go.RowKit Go.PlainAid
open Hx
set_option linter.unusedVariables false
set_option maxRecDepth 20000
set_option linter.unusedSimpArgs false

set_option maxHeartbeats 1000000 in
theorem refText_any (s : ByteArray) (w : World) (hs : s.size ≤ 4611686018427387904) :
    Calls Tryd.prog 35 #[.string s] w fun e w' => e = .returned (.bool (isTxt (ls s))) ∧ w = w' := by
  have hb := get_bt s
  go_enter Tryd.func35, Tryd.ntmps35
  go_wp2
  go_loop [3] (fun i => ∃ k : Nat, k ≤ s.size ∧ i = .int .i64 k ∧ AllTo txtN s k) (fun i => s.size - (intOf i).toNat)
  case atStart => exact ⟨0, Nat.zero_le _, rfl, AllTo.zero _ s⟩
  case round =>
    obtain ⟨k, hk, rfl, hd⟩ := hrel
    have b0 := bt_nonneg s k
    have b1 := bt_le s k
    by_cases hlt : k < s.size
    · have l1 : (k : Int) < (s.size : Int) := by omega
      by_cases q1 : bt s k = 32
      · have HP := Lib.hid (hd.succ hlt (show txtN (bt s k) = true by rw [q1]; rfl))
        have g : (bt s k != 32) = false := by rw [q1]; rfl
        clear q1
        go_wp2
        go_round
        case rel => exact ⟨k + 1, by omega, by go_num, HP.out⟩
        case measure => simp [intOf]; omega
      have g1 : (bt s k != 32) = true := by rw [bne_iff_ne]; exact q1
      by_cases q2 : bt s k = 9
      · have HP := Lib.hid (hd.succ hlt (show txtN (bt s k) = true by rw [q2]; rfl))
        have g : (bt s k != 9) = false := by rw [q2]; rfl
        clear q2 q1
        go_wp2
        go_round
        case rel => exact ⟨k + 1, by omega, by go_num, HP.out⟩
        case measure => simp [intOf]; omega
      have g2 : (bt s k != 9) = true := by rw [bne_iff_ne]; exact q2
      by_cases q3 : bt s k < 33
      · have E := Lib.hid (all_not (p := txtN) hlt (by unfold txtN; simp [q2]; omega))
        clear q1 q2
        go_wp2
        go_ret
        exact ⟨by rw [← txt_is, E.out]; rfl, rfl⟩
      by_cases q4 : bt s k = 127
      · have E := Lib.hid (all_not (p := txtN) hlt (by rw [q4]; rfl))
        have g : (bt s k == 127) = true := by rw [q4]; rfl
        clear q1 q2 q4
        go_wp2
        go_ret
        exact ⟨by rw [← txt_is, E.out]; rfl, rfl⟩
      · have HP := Lib.hid (hd.succ hlt (show txtN (bt s k) = true by unfold txtN; simp [q4]; omega))
        have g : (bt s k == 127) = false := beq_eq_false_iff_ne.2 q4
        clear q1 q2 q4
        go_wp2
        go_round
        case rel => exact ⟨k + 1, by omega, by go_num, HP.out⟩
        case measure => simp [intOf]; omega
    · have E := Lib.hid (hd.whole (by omega))
      have l1 : ¬ (k : Int) < (s.size : Int) := by omega
      go_wp2
      go_ret
      exact ⟨by rw [← txt_is, E.out]; rfl, rfl⟩

/-! ### Find -/
def NoneTo (b : UInt8) (s : ByteArray) (k : Nat) : Prop := ∀ j, j < k → (ls s)[j]? ≠ some b
/-- the place of the first byte b -/
def findI (b : UInt8) (l : List UInt8) : Int := match cutB b l with | none => -1 | some (x, _) => x.length
theorem find_yes {b : UInt8} {l x y : List UInt8} (h : cutB b l = some (x, y)) : findI b l = x.length := by unfold findI; rw [h]
theorem find_no {b : UInt8} {l : List UInt8} (h : cutB b l = none) : findI b l = -1 := by unfold findI; rw [h]
set_option maxRecDepth 200000 in
theorem refFind_c (s : ByteArray) (b : UInt8) (n : Int) (hn : Hid (n = (b.toNat : Int))) (w : World) (hs : s.size ≤ 4611686018427387904) :
    Calls Tryd.prog 37 #[.string s, .int .u8 n] w fun e w' => e = .returned (.int .i64 (findI b (ls s))) ∧ w = w' := by
  have hb := get_bt s
  go_enter Tryd.func37, Tryd.ntmps37
  go_wp2
  go_loop [5] (fun i => ∃ k : Nat, k ≤ s.size ∧ i = .int .i64 k ∧ NoneTo b s k) (fun i => s.size - (intOf i).toNat)
  case atStart => exact ⟨0, Nat.zero_le _, rfl, fun j hj => absurd hj (Nat.not_lt_zero _)⟩
  case round =>
    obtain ⟨k, hk, rfl, hd⟩ := hrel
    by_cases hlt : k < s.size
    · have l1 : (k : Int) < (s.size : Int) := by omega
      obtain ⟨c, gc, ec, _, _, _⟩ := get_ls hlt
      by_cases q : c = b
      · have hz : findI b (ls s) = k := by
          have := cutB_at (by rw [gc, q]) hd
          rw [find_yes this, List.length_take, ls_len]; omega
        have E := Lib.hid hz
        have g : n = bt s k := by rw [ec, q, hn.out]
        clear hz q ec gc hd
        subst g
        go_wp2
        go_ret
        exact ⟨by rw [E.out]; rfl, rfl⟩
      · have HD := Lib.hid (show NoneTo b s (k + 1) from fun j hj => by
          by_cases e : j = k
          · subst e; rw [gc]; exact fun x => q (Option.some.inj x)
          · exact hd j (by omega))
        have g : (bt s k == n) = false := by
          rw [beq_eq_false_iff_ne, ec, hn.out]; exact fun e => q ((byte_eq c b).1 e)
        clear q ec gc hd
        go_wp2
        go_round
        case rel => exact ⟨k + 1, by omega, by go_num, HD.out⟩
        case measure => simp [intOf]; omega
    · have l1 : ¬ (k : Int) < (s.size : Int) := by omega
      have hz : findI b (ls s) = -1 := find_no (cutB_none.2 fun hm => by
        obtain ⟨j, hj, e⟩ := List.getElem_of_mem hm
        rw [ls_len] at hj
        exact hd j (by omega) (by rw [← e]; exact List.getElem?_eq_getElem _))
      have E := Lib.hid hz
      clear hz hd
      go_wp2
      go_ret
      exact ⟨by rw [E.out]; rfl, rfl⟩
theorem refFind_any (s : ByteArray) (b : UInt8) (w : World) (hs : s.size ≤ 4611686018427387904) :
    Calls Tryd.prog 37 #[.string s, .int .u8 (b.toNat : Int)] w fun e w' => e = .returned (.int .i64 (findI b (ls s))) ∧ w = w' :=
  refFind_c s b _ (Lib.hid rfl) w hs
end Go.Proofs.YtdldoklkenhopaaDoor.Fi
