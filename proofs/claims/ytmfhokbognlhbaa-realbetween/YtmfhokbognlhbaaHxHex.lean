/-
  Contract of hexa.Hex: for every text of at most 2^40 bytes it answers two digits a byte; nothing that was there is changed.
-/
import Derived.Test.YtmfhokbognlhbaaHxRow
import Derived.Deep.RegionHeld3
import Derived.Deep.LoopGhost
namespace Go.Proofs.Ytmfhokbognlhbaa.Hx
open Go.RowKit Go.PlainAid
set_option linter.unusedVariables false

theorem hex_step (s : ByteArray) (k : Nat) (h : k < s.size) {B n : Nat} {v : Value} {w1 : World}
    (hown : w1.ownsRow B 5 1 v n (bytesV (hexL (s.data.toList.take k)) ++ [.int .u8 (bt ⟨#[48, 49, 50, 51, 52, 53, 54, 55, 56, 57, 97, 98, 99, 100, 101, 102]⟩ (bt s k / 16).toNat), .int .u8 (bt ⟨#[48, 49, 50, 51, 52, 53, 54, 55, 56, 57, 97, 98, 99, 100, 101, 102]⟩ (bt s k % 16).toNat)])) :
    w1.ownsRow B 5 1 v n (bytesV (hexL (s.data.toList.take (k + 1)))) := by
  have b0 := bt_nonneg s k
  have b1 := bt_le s k
  rw [bt_dg _ (by omega), bt_dg _ (by omega)] at hown
  rw [take_snoc s k h, hexL_append, bytesV_append]
  have e := bt_get s k h
  rw [show (bt s k / 16).toNat = s[k].toNat / 16 by omega, show (bt s k % 16).toNat = s[k].toNat % 16 by omega] at hown
  exact hown

set_option maxHeartbeats 800000 in
theorem hex_any (s : ByteArray) (w : World) (hs : s.size ≤ 1099511627776) :
    Calls Try.prog 51 #[.string s] w fun e w' => e = .returned (.string ⟨(hexL s.data.toList).toArray⟩) ∧ Below w.heap.size w w' := by
  obtain ⟨i0, hi, hz0, hz1, hz2⟩ := info_parts info5
  have hb := get_bt s
  go_enter Try.func51, Try.ntmps51
  go_wp2_with (at_make; refine wpList_make_own _ rfl _ _ 54 rfl w.heap.size 5 i0 (.int .u8 0) 1 Try.underlying54 hi hz0 hz1 .i64 .i64 _ (2 * s.size) rfl rfl (by omega) (by rw [hz2]; omega) (by unfold maxLen; omega) (Nat.le_refl _) ?_; intro w0 hown0 hgrow0)
  go_loopw [3, 4] (fun v i wr => ∃ k : Nat, k ≤ s.size ∧ i = .int .i64 k ∧ wr.ownsRow w.heap.size 5 1 v (2 * k) (bytesV (hexL (s.data.toList.take k))) ∧ Below w.heap.size w wr) (fun _ i _ => s.size - (intOf i).toNat)
  case atStart => exact ⟨0, Nat.zero_le _, rfl, by simpa [bytesV, hexL] using hown0, (Below.refl _ _).grown hgrow0 (Nat.le_refl _) (fun k h => by cases h)⟩
  case round =>
    obtain ⟨k, hk, rfl, hown, hbel⟩ := hrel
    by_cases hlt : k < s.size
    · have b0 := bt_nonneg s k
      have b1 := bt_le s k
      have i1 : (0 : Int) ≤ (k : Int) := Int.natCast_nonneg _
      have i2 : (k : Int) < (s.size : Int) := by omega
      have a15 : bits .and .u8 (bt s k) 15 = bt s k % 16 := u8_and15 _ b0 (by omega)
      have j1 : 0 ≤ bt s k / 16 ∧ bt s k / 16 < 16 := by omega
      have j2 : 0 ≤ bt s k % 16 ∧ bt s k % 16 < 16 := by omega
      have hsz : w.heap.size ≤ wr.heap.size := hbel.size
      have hdg := get_bt ⟨#[48, 49, 50, 51, 52, 53, 54, 55, 56, 57, 97, 98, 99, 100, 101, 102]⟩
      go_wp2
      go_region_held3 (fun _ => True) (trivial) ((refine step_append_lies _ (by rfl) _ _ _ (by rfl) w.heap.size 5 i0 _ 1 1 Try.underlying54 hi hz0 hz1 hz2 rfl (by omega) u3 (2 * k) _ (by rfl) ((hown.alloc _).drew) ⟨wr.heap.size, 0, none⟩ 2 2 [_, _] (by rfl) (by rfl) (World.news_of_block (cs := #[_, _]) (t := 5) (fr := (0, 0)) (heap_alloc_new wr _)) (by simp [Value.oneCell']) (by omega) (by unfold maxLen; omega) (by omega) (by simp; omega) (wr.heap.size + 1) (by simp) ?_; intro g cap w1 hown1 hgrow hat hlt1))
      all_goals
        have R := hex_step s k hlt hown1
        have L := ((hbel.alloc hsz _).drew).grown hgrow (by simp; omega) (fun j hj => (hown.lt j hj).1)
        clear hown1 hgrow hat hown
        go_wp2
        go_roundw
        case rel => exact ⟨k + 1, by omega, by go_num, R, L⟩
        case measure => simp [intOf]; omega
    · have e := take_all s k (by omega)
      have hcv := conv_row hown
      rw [e] at hcv
      clear e
      go_wp2
      go_ret
      exact ⟨rfl, hbel⟩
end Go.Proofs.Ytmfhokbognlhbaa.Hx
