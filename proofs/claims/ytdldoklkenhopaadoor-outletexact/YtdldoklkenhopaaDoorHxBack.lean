/-
  Bytes there and back, in plain terms: Unhex of Hex, Hex of Unhex.
-/
import Derived.Test.YtdldoklkenhopaaDoorHxAwake
namespace Go.Proofs.YtdldoklkenhopaaDoor.Hx
open Go.RowKit Go.PlainAid
set_option linter.unusedVariables false
set_option maxRecDepth 20000

theorem bt_mk (l : List UInt8) (j : Nat) (h : j < l.length) : bt ⟨l.toArray⟩ j = ((l[j]).toNat : Int) := by
  have h' : j < (⟨l.toArray⟩ : ByteArray).size := by simpa [ByteArray.size] using h
  rw [bt_get _ j h']
  rfl
theorem bt_mk? (l : List UInt8) (j : Nat) (c : UInt8) (h : l[j]? = some c) : bt ⟨l.toArray⟩ j = (c.toNat : Int) := by
  obtain ⟨hj, e⟩ := List.getElem?_eq_some_iff.1 h
  rw [bt_mk l j hj, e]
theorem size_mk (l : List UInt8) : (⟨l.toArray⟩ : ByteArray).size = l.length := rfl
theorem mk_data (s : ByteArray) : (⟨s.data.toList.toArray⟩ : ByteArray) = s := by cases s; simp

theorem hexL_hi : ∀ (l : List UInt8) (j : Nat) (c : UInt8), l[j]? = some c → (hexL l)[2 * j]? = some (hd (c.toNat / 16))
  | [], j, c, h => by simp at h
  | a :: l, 0, c, h => by simp at h; subst h; simp [hexL]
  | a :: l, j + 1, c, h => by
    have ih := hexL_hi l j c (by simpa using h)
    rw [show 2 * (j + 1) = 2 * j + 2 by omega]
    simpa [hexL] using ih
theorem hexL_lo : ∀ (l : List UInt8) (j : Nat) (c : UInt8), l[j]? = some c → (hexL l)[2 * j + 1]? = some (hd (c.toNat % 16))
  | [], j, c, h => by simp at h
  | a :: l, 0, c, h => by simp at h; subst h; simp [hexL]
  | a :: l, j + 1, c, h => by
    have ih := hexL_lo l j c (by simpa using h)
    rw [show 2 * (j + 1) + 1 = 2 * j + 1 + 2 by omega]
    simpa [hexL] using ih

theorem sok_hd (n : Nat) (h : n < 16) : sok ((hd n).toNat : Int) = true := by
  have : ∀ m : Fin 16, sok ((hd m.val).toNat : Int) = true := by decide
  exact this ⟨n, h⟩
theorem sv_hd (n : Nat) (h : n < 16) : sv ((hd n).toNat : Int) = n := by
  have : ∀ m : Fin 16, sv ((hd m.val).toNat : Int) = m.val := by decide
  exact this ⟨n, h⟩
theorem hd_sv (c : UInt8) (h : sok (c.toNat : Int) = true) : hd (sv (c.toNat : Int)).toNat = c := by
  apply UInt8.toNat_inj.1
  have hb := sv_bd (c.toNat : Int)
  rw [hd_nat _ (by omega)]
  unfold sok at h
  simp at h
  rcases h with h | h
  · have e : sv (c.toNat : Int) = (c.toNat : Int) - 48 := by unfold sv; rw [if_pos (by omega)]
    rw [e]; split <;> omega
  · have e : sv (c.toNat : Int) = (c.toNat : Int) - 87 := by unfold sv; rw [if_neg (by omega), if_pos (by omega)]
    rw [e]; split <;> omega

theorem hexL_form (l : List UInt8) : UnForm ⟨(hexL l).toArray⟩ := by
  refine ⟨by rw [size_mk, hexL_len]; omega, fun j hj => ?_⟩
  rw [size_mk, hexL_len] at hj
  have hlt : j / 2 < l.length := by omega
  have hc : l[j / 2]? = some l[j / 2] := List.getElem?_eq_getElem hlt
  have hb := (l[j / 2]).toNat_lt
  by_cases e : j % 2 = 0
  · have := hexL_hi l (j / 2) _ hc
    rw [show 2 * (j / 2) = j by omega] at this
    rw [bt_mk? _ _ _ this]; exact sok_hd _ (by omega)
  · have := hexL_lo l (j / 2) _ hc
    rw [show 2 * (j / 2) + 1 = j by omega] at this
    rw [bt_mk? _ _ _ this]; exact sok_hd _ (by omega)
theorem unTo_hexL (l : List UInt8) : ∀ k, k ≤ l.length → unTo ⟨(hexL l).toArray⟩ k = l.take k
  | 0, _ => by simp [unTo]
  | k + 1, hk => by
    have hc : l[k]? = some l[k] := List.getElem?_eq_getElem (by omega)
    have hb := (l[k]).toNat_lt
    rw [unTo, unTo_hexL l k (by omega), List.take_succ_eq_append_getElem (by omega)]
    congr 2
    unfold pair
    rw [bt_mk? _ _ _ (hexL_hi l k _ hc), bt_mk? _ _ _ (hexL_lo l k _ hc), sv_hd _ (by omega), sv_hd _ (by omega)]
    apply UInt8.toNat_inj.1
    rw [UInt8.toNat_ofNat']
    omega
theorem unTo_back (l : List UInt8) : unTo ⟨(hexL l).toArray⟩ ((⟨(hexL l).toArray⟩ : ByteArray).size / 2) = l := by
  rw [size_mk, hexL_len, unTo_hexL l _ (by omega)]
  exact List.take_of_length_le (by omega)

theorem hexL_unTo (s : ByteArray) : ∀ k, 2 * k ≤ s.size → AllSm s (2 * k) → hexL (unTo s k) = s.data.toList.take (2 * k)
  | 0, _, _ => by simp [unTo, hexL]
  | k + 1, hk, ha => by
    have ih := hexL_unTo s k (by omega) (fun j hj => ha j (by omega))
    have h0 := ha (2 * k) (by omega)
    have h1 := ha (2 * k + 1) (by omega)
    rw [unTo, hexL_append, ih, show 2 * (k + 1) = 2 * k + 1 + 1 by omega, take_snoc s (2 * k + 1) (by omega), take_snoc s (2 * k) (by omega), List.append_assoc]
    congr 1
    have hp := pair_nat s k
    have b0 := sv_bd (bt s (2 * k))
    have b1 := sv_bd (bt s (2 * k + 1))
    simp only [hexL]
    rw [show (pair s k).toNat / 16 = (sv (bt s (2 * k))).toNat by omega, show (pair s k).toNat % 16 = (sv (bt s (2 * k + 1))).toNat by omega]
    rw [bt_get s _ (by omega)] at h0 ⊢
    rw [bt_get s _ (by omega)] at h1 ⊢
    rw [hd_sv _ h0, hd_sv _ h1]
    rfl
theorem hexL_back (s : ByteArray) (h : UnForm s) : hexL (unTo s (s.size / 2)) = s.data.toList := by
  have e := h.1
  rw [hexL_unTo s (s.size / 2) (by omega) (fun j hj => h.2 j (by omega))]
  exact List.take_of_length_le (by simp; omega)
end Go.Proofs.YtdldoklkenhopaaDoor.Hx
