/-
  The answers that the document fixes by number, plainly.
-/
import Derived.Test.YtbngfphiachnoaaGreatDoorInText
import Derived.Test.YtbngfphiachnoaaGreatDoorSet6
namespace Go.Proofs.YtbngfphiachnoaaGreatDoor.In
open Go.RowKit Go.PlainAid
open Hx Fi Ch
set_option linter.unusedVariables false
set_option maxRecDepth 20000
set_option linter.unusedSimpArgs false

def tA : ByteArray := ⟨#[71, 69, 84, 32, 47, 118, 50, 47, 32, 72, 84, 84, 80, 47, 49, 46, 49, 13, 10, 72, 111, 115, 116, 58, 32, 97, 13, 10, 13, 10, 71, 69, 84]⟩
def tB : ByteArray := ⟨#[71, 69, 84, 32, 47, 32, 72, 84, 84, 80, 47, 49, 46, 49, 13, 10, 72, 111, 115, 116, 58, 32, 97, 13, 10, 67, 111, 110, 116, 101, 110, 116, 45, 76, 101, 110, 103, 116, 104, 58, 32, 53, 48, 48, 48, 13, 10, 13, 10]⟩
def tC : ByteArray := ⟨#[71, 69, 84, 32, 47, 32, 72, 84, 84, 80, 47, 50, 46, 48]⟩
def fA : Fi.Fd := ⟨nHost, ⟨#[97]⟩⟩
def fB : Fi.Fd := ⟨nCL, ⟨#[53, 48, 48, 48]⟩⟩
def lA : List UInt8 := getL [47, 118, 50, 47]
def lB : List UInt8 := getL [47]
noncomputable def qA : Rq := ⟨[71, 69, 84], [47, 118, 50, 47], [fA], closesF [fA] 1⟩
theorem fA_good : Fi.Good fA := (good_iff _).1 (by decide +kernel)
theorem fB_good : Fi.Good fB := (good_iff _).1 (by decide +kernel)
theorem frA : frF [fA] 4096 = ⟨-1, false, 0⟩ := by
  have e0 : sameL (ls nHost) (ls nTE) = false := by decide +kernel
  have e2 : sameL (ls nHost) (ls nCL) = false := by decide +kernel
  have v1 : valsF (ls nTE) [fA] = [] := by simp [valsF, fA, e0]
  have v2 : valsF (ls nCL) [fA] = [] := by simp [valsF, fA, e2]
  unfold frF getN
  rw [v1, v2, if_pos ⟨rfl, rfl⟩]
theorem frB : (frF [fA, fB] 4096).e = 4 := by
  have e0 : sameL (ls nHost) (ls nTE) = false := by decide +kernel
  have e1 : sameL (ls nCL) (ls nTE) = false := by decide +kernel
  have e2 : sameL (ls nHost) (ls nCL) = false := by decide +kernel
  have e3 : sameL (ls nCL) (ls nCL) = true := by decide +kernel
  have v1 : valsF (ls nTE) [fA, fB] = [] := by simp [valsF, fA, fB, e0, e1]
  have v2 : valsF (ls nCL) [fA, fB] = [⟨#[53, 48, 48, 48]⟩] := by simp [valsF, fA, fB, e2, e3]
  have et : (⟨#[53, 48, 48, 48]⟩ : ByteArray) = tx (digL 8 5000) := by decide +kernel
  have hf : DecForm (tx (digL 8 5000)) := dec_form 5000
  have hv : decTo (tx (digL 8 5000)) (tx (digL 8 5000)).size = (5000 : Nat) := by rw [tx_size]; exact dec_val 5000
  have hs : (tx (digL 8 5000)).size ≤ 19 := by rw [tx_size]; exact dec_len 5000 (by omega)
  have hE : undE (tx (digL 8 5000)) 4096 = 14 := by
    unfold undE amE
    rw [if_pos hf, if_pos hs, hv]
    rfl
  unfold frF getN getS
  rw [v1, v2, et]
  show (if 0 = 0 ∧ 1 = 0 then _ else if 1 < 0 + 1 then _ else if 1 = 1 then (⟨lenN (tx (digL 8 5000)) 4096, false, lenE (tx (digL 8 5000)) 4096⟩ : Fr) else _).e = _
  rw [if_neg (by omega), if_neg (by omega), if_pos rfl]
  show lenE (tx (digL 8 5000)) 4096 = 4
  unfold lenE
  rw [hE, if_pos rfl]
theorem hostA : getN (ls nHost) [fA] = 1 := by
  have e0 : sameL (ls nHost) (ls nHost) = true := by decide +kernel
  unfold getN
  simp [valsF, fA, e0]
theorem hostB : getN (ls nHost) [fA, fB] = 1 := by
  have e0 : sameL (ls nHost) (ls nHost) = true := by decide +kernel
  have e1 : sameL (ls nCL) (ls nHost) = false := by decide +kernel
  unfold getN
  simp [valsF, fA, fB, e0, e1]
theorem rdA : rdF (ls tA) = .ok qA 30 := by
  have hs := spl_head lA [fA] (by decide) (by decide) (by decide) (by decide) (by
    intro f hf
    simp only [List.mem_cons, List.not_mem_nil, or_false] at hf
    subst hf; exact fA_good) (by simp) (by decide +kernel)
  have hl : (headF lA [fA]).length = 30 := by decide +kernel
  have ht : ls tA = headF lA [fA] ++ [71, 69, 84] := by decide +kernel
  rw [hl] at hs
  have hq : headQ ⟨0, lA, [fA], 30⟩ = .ok (qA, ⟨-1, false, 0⟩) := by
    have hln : lnQ lA = .ok ([71, 69, 84], [47, 118, 50, 47], 1) := by kernel_rfl
    unfold headQ
    rw [hln]
    simp only
    rw [hostA, frA, if_neg (by omega)]
    simp only
    rw [if_neg (by omega), if_neg (by omega)]
    rfl
  have h1 : rdF (headF lA [fA]) = .ok qA 30 := by
    rw [rd_sized (q := qA) (f := ⟨-1, false, 0⟩) (by rw [hs]) (by rw [hs]; exact hq) (by simp), hs, hl]
    rfl
  rw [ht, rd_stays _ _ (by rw [h1]; intro e; cases e), h1]
theorem rdB : rdF (ls tB) = .bad 413 := by
  have hs := spl_head lB [fA, fB] (by decide) (by decide) (by decide) (by decide) (by
    intro f hf
    simp only [List.mem_cons, List.not_mem_nil, or_false] at hf
    rcases hf with rfl | rfl
    · exact fA_good
    · exact fB_good) (by simp) (by decide +kernel)
  have ht : ls tB = headF lB [fA, fB] := by decide +kernel
  have hq : headQ ⟨0, lB, [fA, fB], (headF lB [fA, fB]).length⟩ = .error 413 := by
    have hln : lnQ lB = .ok ([71, 69, 84], [47], 1) := by kernel_rfl
    unfold headQ
    rw [hln]
    simp only
    rw [hostB, if_neg (by omega), frB, if_pos rfl]
  rw [ht, rd_bad (by rw [hs]) (by rw [hs]; exact hq)]
theorem rdG : rdF [71, 69, 84] = .more := rd_short (by decide +kernel)
theorem dropA : (ls tA).drop 30 = [71, 69, 84] := by decide +kernel
theorem lnC2 : lnQ (ls tC) = .error 505 := by kernel_rfl
theorem clA : closesF [fA] 1 = false := by decide +kernel
end Go.Proofs.YtbngfphiachnoaaGreatDoor.In
