/-
  Contract of cut of package field: the trimmed parts of a value between marks that aren't in quotes.
-/
import Derived.Test.YtdldoklkenhopaaDoorFiPlain
namespace Go.Proofs.YtdldoklkenhopaaDoor.Fi
open Go.RowKit Go.PlainAid
open Hx
set_option linter.unusedVariables false
set_option maxRecDepth 20000
set_option linter.unusedSimpArgs false

/-- where the walk of cut stands -/
structure CutInv (mark : UInt8) (s : ByteArray) (k b : Nat) (q : Bool) (ps : List ByteArray) : Prop where
  inv : (cutA mark (ls s)).map tx = ps ++ (cutQ mark ((ls s).drop k) q (((ls s).take k).drop b)).map tx
theorem CutInv.zero (mark : UInt8) (s : ByteArray) : CutInv mark s 0 0 false [] := ⟨by simp [cutA]⟩
section
variable {mark : UInt8} {s : ByteArray} {k b : Nat} {q : Bool} {ps : List ByteArray}
theorem part_snoc (hk : k < s.size) (hb : b ≤ k) {c : UInt8} (ht : (ls s).take (k + 1) = (ls s).take k ++ [c]) : ((ls s).take (k + 1)).drop b = ((ls s).take k).drop b ++ [c] := by
  rw [ht, List.drop_append_of_le_length (by rw [List.length_take, ls_len]; omega)]
theorem CutInv.quote (h : CutInv mark s k b q ps) (hk : k < s.size) (hb : b ≤ k) (e : bt s k = 34) : CutInv mark s (k + 1) b (!q) ps := by
  obtain ⟨c, _, ec, _, tc, dc⟩ := get_ls hk
  have : c = 34 := (byte_eq c 34).1 (by rw [← ec, e]; rfl)
  subst this
  refine ⟨?_⟩
  rw [h.inv, dc, cutQ_quote, part_snoc hk hb tc]
theorem CutInv.esc (h : CutInv mark s k b true ps) (hk : k < s.size) (hb : b ≤ k) (e : bt s k = 92) : CutInv mark s (k + 2) b true ps := by
  obtain ⟨c, _, ec, _, tc, dc⟩ := get_ls hk
  have : c = 92 := (byte_eq c 92).1 (by rw [← ec, e]; rfl)
  subst this
  refine ⟨?_⟩
  by_cases h1 : k + 1 < s.size
  · obtain ⟨d, _, _, _, td, dd⟩ := get_ls h1
    rw [h.inv, dc, dd, cutQ_esc, part_snoc (k := k + 1) h1 (by omega) td, part_snoc hk hb tc, List.append_assoc]
    rfl
  · have e1 : (ls s).drop (k + 1) = [] := List.drop_of_length_le (by rw [ls_len]; omega)
    have e2 : (ls s).drop (k + 2) = [] := List.drop_of_length_le (by rw [ls_len]; omega)
    have e3 : (ls s).take (k + 2) = (ls s).take (k + 1) := by rw [List.take_of_length_le (by rw [ls_len]; omega), List.take_of_length_le (by rw [ls_len]; omega)]
    rw [h.inv, dc, e1, cutQ_last, e2, cutQ_nil, e3, part_snoc hk hb tc]
theorem CutInv.next (h : CutInv mark s k b false ps) (hm : mark ≠ 34) (hk : k < s.size) (hb : b ≤ k) (e : bt s k = (mark.toNat : Int)) : CutInv mark s (k + 1) (k + 1) false (ps ++ [tx (trimT (ls (s.extract b k)))]) := by
  obtain ⟨c, _, ec, _, tc, dc⟩ := get_ls hk
  have : c = mark := (byte_eq c mark).1 (by rw [← ec, e])
  subst this
  refine ⟨?_⟩
  have e1 : ((ls s).take (k + 1)).drop (k + 1) = [] := List.drop_of_length_le (by rw [List.length_take]; omega)
  rw [h.inv, dc, cutQ_mark _ hm, e1, ls_extract, List.drop_take]
  simp
theorem CutInv.else (h : CutInv mark s k b q ps) (hk : k < s.size) (hb : b ≤ k) (h1 : ¬ (q = true ∧ bt s k = 92)) (h2 : bt s k ≠ 34) (h3 : ¬ (bt s k = (mark.toNat : Int) ∧ q = false)) : CutInv mark s (k + 1) b q ps := by
  obtain ⟨c, _, ec, _, tc, dc⟩ := get_ls hk
  refine ⟨?_⟩
  rw [h.inv, dc, cutQ_else mark c q _ _ (fun x => h1 ⟨x.1, by rw [ec, x.2]; rfl⟩) (fun x => h2 (by rw [ec, x]; rfl)) (fun x => h3 ⟨by rw [ec, x.1], x.2⟩), part_snoc hk hb tc]
theorem CutInv.end (h : CutInv mark s k b q ps) (hk : s.size ≤ k) : (cutA mark (ls s)).map tx = ps ++ [tx (trimT (ls (s.extract b s.size)))] := by
  rw [h.inv, List.drop_of_length_le (by rw [ls_len]; exact hk), cutQ_nil, List.take_of_length_le (by rw [ls_len]; exact hk), ls_extract]
  rw [List.take_of_length_le (l := (ls s).drop b) (by rw [List.length_drop, ls_len]; exact Nat.le_refl _)]
  rfl
end
def CutRel (mark : UInt8) (s : ByteArray) (w : World) (v i0 i1 i2 : Value) (wr : World) : Prop :=
  ∃ (k b m : Nat) (q : Bool) (ps : List ByteArray) (base : Option Addr) (cap : Nat), k ≤ s.size + 1 ∧ b ≤ k ∧ b ≤ s.size ∧ m ≤ k ∧ i0 = .int .i64 b ∧ i1 = .bool q ∧ i2 = .int .i64 k ∧ v = .slice base m cap ∧ Hid (m = ps.length) ∧ wr.ownsRow w.heap.size 9 1 (.slice base m cap) m (strsL ps) ∧ Below w.heap.size w wr ∧ Hid (CutInv mark s k b q ps)
end Go.Proofs.YtdldoklkenhopaaDoor.Fi
