/-
  Contracts of the document's answers of layer 1 for bytes: Value, Hex, Unhex.
-/
import Derived.Test.YtdldoklkenhopaaGreatDoorSet4
import Derived.Deep.RegionHeld3
namespace Go.Proofs.YtdldoklkenhopaaGreatDoor.Hx
open Go.RowKit Go.PlainAid
set_option linter.unusedVariables false
set_option maxRecDepth 20000

theorem made0 (w : World) : (w.alloc (.cells #[] 5)).ownsRow w.heap.size 5 1 (.slice (some ⟨w.heap.size, 0, none⟩) 0 0) 0 (bytesV []) :=
  World.ownsRow_made w #[] 0 (Nat.le_refl _) (Nat.zero_le _) rfl
/-- a row of the call's own, behind a callee that changes nothing that was there -/
theorem later {w w1 : World} {base n : Nat} {e : TypeId} {size : Nat} {v : Value} {xs : List Value} (h : w.ownsRow base e size v n xs) (hb : Below w.heap.size w w1) : w1.ownsRow base e size v n xs := by
  refine ⟨h.1, ?_⟩
  rcases h.2 with h2 | ⟨g, cap, cur, hv, hbg, hg, r⟩
  · exact .inl h2
  · refine .inr ⟨g, cap, cur, hv, hbg, ?_, r⟩
    have hlt : g < w.heap.size := by
      rcases Nat.lt_or_ge g w.heap.size with hlt | hge
      · exact hlt
      · rw [Array.getElem?_eq_none hge] at hg; cases hg
    rw [hb.block g hlt]; exact hg

/-- the byte of two digits, great ones too -/
def vpair (s : ByteArray) (k : Nat) : UInt8 := UInt8.ofNat (16 * av (bt s (2 * k)) + av (bt s (2 * k + 1))).toNat
theorem vpair_nat (s : ByteArray) (k : Nat) : ((vpair s k).toNat : Int) = 16 * av (bt s (2 * k)) + av (bt s (2 * k + 1)) := by
  have a := av_bd (bt s (2 * k))
  have b := av_bd (bt s (2 * k + 1))
  unfold vpair
  rw [UInt8.toNat_ofNat']
  omega
def vTo (s : ByteArray) : Nat → List UInt8
  | 0 => []
  | k + 1 => vTo s k ++ [vpair s k]
theorem vTo_len (s : ByteArray) : ∀ k, (vTo s k).length = k
  | 0 => rfl
  | k + 1 => by simp [vTo, vTo_len s k]
theorem av_sok (c : Int) (h : sok c = true) : av c = sv c ∧ aok c = true := by
  unfold sok at h
  simp at h
  refine ⟨?_, ?_⟩
  · unfold av; rw [if_neg (by omega)]
  · unfold aok sok; simp; omega
theorem vTo_unTo (s : ByteArray) : ∀ k, AllSm s (2 * k) → vTo s k = unTo s k
  | 0, _ => rfl
  | k + 1, h => by
    rw [vTo, unTo, vTo_unTo s k (fun j hj => h j (by omega))]
    congr 2
    apply UInt8.toNat_inj.1
    have a := vpair_nat s k
    have b := pair_nat s k
    have c := (av_sok _ (h (2 * k) (by omega))).1
    have d := (av_sok _ (h (2 * k + 1) (by omega))).1
    omega

theorem runhex_step {B n : Nat} {v : Value} {w1 : World} (s : ByteArray) (k : Nat) (hown : w1.ownsRow B 5 1 v n (bytesV (vTo s k) ++ [.int .u8 (16 * av (bt s (2 * k)) + av (bt s (2 * k + 1)))])) :
    w1.ownsRow B 5 1 v n (bytesV (vTo s (k + 1))) := by
  simp only [vTo, bytesV_append]
  rw [← vpair_nat] at hown
  exact hown

/-- what the last test of Unhex comes to -/
theorem runhex_test (s : ByteArray) (k : Nat) (h : s.size ≤ 2 * k + 1) (h2 : 2 * k ≤ s.size) : (UnForm s ∧ hexL (vTo s k) = s.data.toList ∧ vTo s k = unTo s (s.size / 2)) ∨ (¬ UnForm s ∧ hexL (vTo s k) ≠ s.data.toList) := by
  by_cases hf : UnForm s
  · left
    have e := hf.1
    have ek : k = s.size / 2 := by omega
    have hv : vTo s k = unTo s (s.size / 2) := by rw [ek]; exact vTo_unTo s _ (fun j hj => hf.2 j (by omega))
    exact ⟨hf, by rw [hv]; exact hexL_back s hf, hv⟩
  · right
    refine ⟨hf, fun e => hf ?_⟩
    have := hexL_form (vTo s k)
    rw [e, mk_data] at this
    exact this

end Go.Proofs.YtdldoklkenhopaaGreatDoor.Hx
