/-
  Contracts of small and unquoted of package field.
-/
import Derived.Test.YtdldoklkenhopaaDoorFiFrame
import Derived.Lib.ConvBytes
namespace Go.Proofs.YtdldoklkenhopaaDoor.Fi
open Go.RowKit Go.PlainAid
open Hx
set_option linter.unusedVariables false
set_option maxRecDepth 20000
set_option linter.unusedSimpArgs false

/-! ### rows of bytes that came of a text -/
/-- block B holds the bytes l, which may be written -/
structure RowB (w : World) (B : Nat) (l : List UInt8) : Prop where
  cell : ∀ (j : Nat) (x : UInt8), l[j]? = some x → w.cell? ⟨B, j, none⟩ = some (.int .u8 (x.toNat : Int)) ∧ w.frozen? ⟨B, j, none⟩ = false
theorem RowB.old {w w' : World} {B : Nat} {l : List UInt8} (h : RowB w B l) (hw : w'.heap[B]? = w.heap[B]?) : RowB w' B l :=
  ⟨fun j x hx => by rw [World.cell?_of_block (w := w) hw, World.frozen?_of_block (w := w) hw]; exact h.cell j x hx⟩
theorem RowB.below {w w' : World} {B N : Nat} {l : List UInt8} (h : RowB w B l) (hb : Below N w w') (hB : B < N) : RowB w' B l := h.old (hb.block B hB)
theorem cell_ne {w : World} {B j i : Nat} {u v : Value} (h : j ≠ i) (hc : w.cell? ⟨B, j, none⟩ = some u) : (w.setCell ⟨B, i, none⟩ v).cell? ⟨B, j, none⟩ = some u := by
  rw [World.cell?_setCell_other _ _ _ _ (by intro e; injection e; omega)]; exact hc
theorem RowB.set {w : World} {B : Nat} {l : List UInt8} (h : RowB w B l) (i : Nat) (v : UInt8) (hi : i < l.length) : RowB (w.setCell ⟨B, i, none⟩ (.int .u8 (v.toNat : Int))) B (l.set i v) := by
  refine ⟨fun j x hx => ?_⟩
  rw [World.frozen?_setCell]
  by_cases e : j = i
  · subst e
    rw [List.getElem?_set_self hi] at hx
    obtain rfl : v = x := by simpa using hx
    have c := h.cell j l[j] (List.getElem?_eq_getElem hi)
    exact ⟨World.cell?_setCell_same _ _ _ c.1, c.2⟩
  · rw [List.getElem?_set_ne (by omega)] at hx
    exact ⟨cell_ne e (h.cell j x hx).1, (h.cell j x hx).2⟩
theorem RowB.conv {w : World} {B cap : Nat} {l : List UInt8} (h : RowB w B l) {n : Nat} (hn : l.length = n) : (convert 57 9 (.slice (some ⟨B, 0, none⟩) n cap)).run Tryd.prog w = .ok (.string (tx l)) w := by
  subst hn
  exact run_convert_bytes_back (P := Tryd.prog) w 57 9 5 ⟨B, 0, none⟩ cap l Tryd.underlying57 Tryd.underlying5 Tryd.underlying9 (fun j hj => by
    rw [add_at, Nat.zero_add]
    exact (h.cell j l[j] (List.getElem?_eq_getElem hj)).1)
theorem bytes_row (w : World) (s : ByteArray) : ∃ cap X, (convert 9 57 (.string s)).run Tryd.prog w = .ok (.slice (some ⟨w.heap.size, 0, none⟩) s.size cap) X ∧ RowB X w.heap.size (ls s) ∧ Below w.heap.size w X ∧ w.heap.size < X.heap.size := by
  refine ⟨_, _, Lib.run_convert_string_bytes w 9 57 5 s Tryd.underlying9 Tryd.underlying57 Tryd.underlying5, ⟨?_⟩, ?_, ?_⟩
  · intro j x hx
    have hj : j < s.size := by
      have := (List.getElem?_eq_some_iff.1 hx).1
      rwa [ls_len] at this
    refine ⟨?_, ?_⟩
    · rw [Lib.bytesWorld_cell w 5 s j hj]
      have e := (List.getElem?_eq_some_iff.1 hx).2
      simp [ls] at e
      simp [← e, hj]
    · have hz : s.size ≤ (Lib.bytesCells w 5 s).size := by simp [Lib.bytesCells]
      have hn := Lib.bytesWorld_at_new w 5 s
      simp [World.frozen?, hn]; omega
  · exact ⟨rfl, rfl, rfl, by rw [Lib.bytesWorld_size]; omega, fun k hk => Lib.bytesWorld_at_old w 5 s k hk⟩
  · rw [Lib.bytesWorld_size]; omega
/-- the first k letters made small -/
def mixL (s : ByteArray) (k : Nat) : List UInt8 := low ((ls s).take k) ++ (ls s).drop k
theorem mixL_zero (s : ByteArray) : mixL s 0 = ls s := by simp [mixL, low]
theorem mixL_len (s : ByteArray) (k : Nat) : (mixL s k).length = s.size := by
  unfold mixL low
  rw [List.length_append, List.length_map, ← List.length_append, List.take_append_drop, ls_len]
theorem mixL_end (s : ByteArray) (k : Nat) (h : s.size ≤ k) : mixL s k = low (ls s) := by
  unfold mixL
  rw [List.take_of_length_le (by rw [ls_len]; exact h), List.drop_of_length_le (by rw [ls_len]; exact h), List.append_nil]
theorem mixL_step (s : ByteArray) (k : Nat) (h : k < s.size) : ∃ c, (mixL s k)[k]? = some c ∧ (mixL s k).set k (lowB c) = mixL s (k + 1) := by
  obtain ⟨c, gc, _, _, tc, dc⟩ := get_ls h
  have hlen : (low ((ls s).take k)).length = k := by unfold low; rw [List.length_map, List.length_take, ls_len]; omega
  refine ⟨c, ?_, ?_⟩
  · unfold mixL
    rw [List.getElem?_append_right (by omega), hlen, Nat.sub_self, dc]; rfl
  · unfold mixL
    rw [dc, List.set_append_right _ _ (by omega), hlen, Nat.sub_self, List.set_cons_zero, tc]
    unfold low
    rw [List.map_append]
    simp
/-! ### unquoted -/
def qV (l : List UInt8) : List UInt8 := (quoF l).getD []
def qB (l : List UInt8) : Bool := (quoF l).isSome
theorem uq_yes {l : List UInt8} {c : UInt8} {x : List UInt8} (hc : c = 34) (h : uqF l [] = some x) : qV (c :: l) = x ∧ qB (c :: l) = true := by
  have : quoF (c :: l) = some x := by
    show (if c = 34 then uqF l [] else none) = some x
    rw [if_pos hc, h]
  unfold qV qB
  rw [this]; exact ⟨rfl, rfl⟩
theorem uq_no {l : List UInt8} {c : UInt8} (h : c ≠ 34 ∨ uqF l [] = none) : qV (c :: l) = [] ∧ qB (c :: l) = false := by
  have : quoF (c :: l) = none := by
    show (if c = 34 then uqF l [] else none) = none
    split
    · rcases h with h | h
      · rename_i hc; exact absurd hc h
      · exact h
    · rfl
  unfold qV qB
  rw [this]; exact ⟨rfl, rfl⟩
theorem uq_nil : qV [] = [] ∧ qB [] = false := ⟨rfl, rfl⟩
theorem new_byte (w : World) (c : Int) : ∀ j u, ([Value.int .u8 c] : List Value)[j]? = some u → (w.alloc (.cells #[.int .u8 c] 5)).cell? ((⟨w.heap.size, 0, none⟩ : Addr).add j) = some u := by
  intro j u hj
  rw [add_at, Nat.zero_add, (At.new w _ _).cell]
  simpa using hj
def UqInv (s : ByteArray) (R : Option (List UInt8)) (k : Nat) (acc : List UInt8) : Prop := uqF ((ls s).drop k) acc = R
theorem bytesV_snoc (l : List UInt8) (c : UInt8) : bytesV l ++ [Value.int .u8 (c.toNat : Int)] = bytesV (l ++ [c]) := by rw [bytesV_append]; rfl
end Go.Proofs.YtdldoklkenhopaaDoor.Fi
