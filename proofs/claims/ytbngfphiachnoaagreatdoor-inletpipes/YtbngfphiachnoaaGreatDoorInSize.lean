/-
  Contract of size of the laws: a number below 1000 in decimal.
-/
import Derived.Test.YtbngfphiachnoaaGreatDoorInText
import Derived.Test.YtbngfphiachnoaaGreatDoorFiSplit2
namespace Go.Proofs.YtbngfphiachnoaaGreatDoor.In
open Go.RowKit Go.PlainAid
open Hx Fi Ch
set_option linter.unusedVariables false
set_option maxRecDepth 20000
set_option linter.unusedSimpArgs false

theorem dig_cut : ∀ d : Fin 10, ls ((⟨#[48, 49, 50, 51, 52, 53, 54, 55, 56, 57]⟩ : ByteArray).extract d.val (d.val + 1)) = [hd d.val] := by decide +kernel
theorem dig_sl {x : Int} {d : Nat} (hx : x = (d : Int)) (hd9 : d < 10) (w : World) : (Instr.slice 9 (.string ⟨#[48, 49, 50, 51, 52, 53, 54, 55, 56, 57]⟩) (some (.int .i64 x)) (some (.int .i64 (x + 1))) none).run Tryz.prog w = .ok (.string (tx [hd d])) w := by
  have hz : (⟨#[48, 49, 50, 51, 52, 53, 54, 55, 56, 57]⟩ : ByteArray).size = 10 := rfl
  have h := run_slice_string (P := Tryz.prog) (w := w) 9 ⟨#[48, 49, 50, 51, 52, 53, 54, 55, 56, 57]⟩ .i64 .i64 x (x + 1) Tryz.underlying9 (by omega) (by omega) (by rw [hz]; omega)
  rw [show (x + 1).toNat = d + 1 by omega, show x.toNat = d by omega] at h
  rw [h]
  congr 2
  exact ls_inj (by rw [dig_cut ⟨d, hd9⟩, ls_tx])
theorem size_any (n : Nat) (h : n < 1000) (w : World) :
    Calls Tryz.prog 21 #[.int .i64 (n : Int)] w fun e w' => e = .returned (.string (tx (decD n))) ∧ w = w' := by
  have s0 := fun w => dig_sl (x := (n : Int) % 10) (d := n % 10) (by omega) (by omega) w
  by_cases h1 : n < 10
  · have g : ¬ (10 : Int) ≤ (n : Int) := by omega
    have g2 : ¬ (100 : Int) ≤ (n : Int) := by omega
    have e : decD n = [hd (n % 10)] := by unfold decD; rw [if_pos h1, Nat.mod_eq_of_lt h1]
    rw [e]
    clear e h1
    generalize tx [hd (n % 10)] = D0 at *
    go_enter Tryz.func21, Tryz.ntmps21
    go_wp2
    go_ret
    exact ⟨rfl, rfl⟩
  · have g : (10 : Int) ≤ (n : Int) := by omega
    have s1 := fun w => dig_sl (x := (n : Int) / 10 % 10) (d := n / 10 % 10) (by omega) (by omega) w
    by_cases h2 : n < 100
    · have g2 : ¬ (100 : Int) ≤ (n : Int) := by omega
      have e : tx (decD n) = tx [hd (n / 10 % 10)] ++ tx [hd (n % 10)] := ls_inj (by
        unfold decD; rw [if_neg h1, if_pos h2, ls_append, ls_tx, ls_tx, ls_tx, show n / 10 % 10 = n / 10 by omega]; rfl)
      rw [e]
      clear e h1 h2
      have z1 : (tx [hd (n / 10 % 10)]).size = 1 := by rw [tx_size]; rfl
      have z0 : (tx [hd (n % 10)]).size = 1 := by rw [tx_size]; rfl
      generalize tx [hd (n % 10)] = D0 at *
      generalize tx [hd (n / 10 % 10)] = D1 at *
      go_enter Tryz.func21, Tryz.ntmps21
      go_wp2
      go_ret
      exact ⟨rfl, rfl⟩
    · have g2 : (100 : Int) ≤ (n : Int) := by omega
      have s2 := fun w => dig_sl (x := (n : Int) / 100) (d := n / 100) (by omega) (by omega) w
      have e : tx (decD n) = tx [hd (n / 100)] ++ (tx [hd (n / 10 % 10)] ++ tx [hd (n % 10)]) := ls_inj (by
        unfold decD; rw [if_neg h1, if_neg h2, ls_append, ls_append, ls_tx, ls_tx, ls_tx, ls_tx]; rfl)
      rw [e]
      clear e h1 h2
      have z2 : (tx [hd (n / 100)]).size = 1 := by rw [tx_size]; rfl
      have z1 : (tx [hd (n / 10 % 10)]).size = 1 := by rw [tx_size]; rfl
      have z0 : (tx [hd (n % 10)]).size = 1 := by rw [tx_size]; rfl
      have z01 : (tx [hd (n / 10 % 10)] ++ tx [hd (n % 10)]).size = 2 := by rw [ByteArray.size_append, z1, z0]
      generalize tx [hd (n % 10)] = D0 at *
      generalize tx [hd (n / 10 % 10)] = D1 at *
      generalize tx [hd (n / 100)] = D2 at *
      go_enter Tryz.func21, Tryz.ntmps21
      go_wp2
      go_ret
      exact ⟨rfl, rfl⟩
end Go.Proofs.YtbngfphiachnoaaGreatDoor.In
