/-
  Contract of hexa.Hex: for every text of at most 2^40 bytes it answers two digits a byte; nothing that was there is changed.
-/
import Derived.Test.YtdldoklkenhopaaDoorHxRow
import Derived.Deep.RegionHeld3
import Derived.Deep.LoopGhost
namespace Go.Proofs.YtdldoklkenhopaaDoor.Hx
open Go.RowKit Go.PlainAid
set_option linter.unusedVariables false
set_option maxRecDepth 20000

theorem hex_step (s : ByteArray) (k : Nat) (h : k < s.size) {B n : Nat} {v : Value} {w1 : World}
    (hown : w1.ownsRow B 5 1 v n (bytesV (hexL (s.data.toList.take k)) ++ [.int .u8 (bt ⟨#[48, 49, 50, 51, 52, 53, 54, 55, 56, 57, 97, 98, 99, 100, 101, 102]⟩ (bt s k / 16).toNat), .int .u8 (bt ⟨#[48, 49, 50, 51, 52, 53, 54, 55, 56, 57, 97, 98, 99, 100, 101, 102]⟩ (bt s k % 16).toNat)])) :
    w1.ownsRow B 5 1 v n (bytesV (hexL (s.data.toList.take (k + 1)))) := by
  have b0 := bt_nonneg s k
  have b1 := bt_le s k
  rw [bt_dg _ (by omega), bt_dg _ (by omega)] at hown
  rw [take_snoc s k h, hexL_append, bytesV_append]
  have e := bt_get s k h
  rw [show (bt s k / 16).toNat = s[k].toNat / 16 by omega, show (bt s k % 16).toNat = s[k].toNat % 16 by omega] at hown
  exact hown

end Go.Proofs.YtdldoklkenhopaaDoor.Hx
