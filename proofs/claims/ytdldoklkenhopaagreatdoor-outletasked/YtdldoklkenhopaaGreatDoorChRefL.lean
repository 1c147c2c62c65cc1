/-
  Contracts of line and number of the document's answers.
-/
import Derived.Test.YtdldoklkenhopaaGreatDoorChCuts
import Derived.Test.YtdldoklkenhopaaGreatDoorFiRef
import Derived.Test.YtdldoklkenhopaaGreatDoorFiRefP
import Derived.Test.YtdldoklkenhopaaGreatDoorHxRefN
namespace Go.Proofs.YtdldoklkenhopaaGreatDoor.Ch
open Go.RowKit Go.PlainAid
open Hx Fi
set_option linter.unusedVariables false
set_option maxRecDepth 20000
set_option linter.unusedSimpArgs false

theorem slice_two (s : ByteArray) (i j : Nat) (iI jI : Int) (e1 : iI = i) (e2 : jI = j) (h1 : i ≤ j) (h2 : j ≤ s.size) (w : World) :
    (Instr.slice 9 (.string s) (some (.int .i64 iI)) (some (.int .i64 jI)) none).run Tryz.prog w = .ok (.string (s.extract i j)) w := by
  have h := run_slice_string (P := Tryz.prog) (w := w) 9 s .i64 .i64 iI jI Tryz.underlying9 (by omega) (by omega) (by omega)
  rw [show jI.toNat = j by omega, show iI.toNat = i by omega] at h
  exact h
/-- what line answers: the line without its end, and the place behind it -/
inductive Ln where
  | err (e : Int)
  | ok (x : List UInt8) (n : Nat)
def lnF (l : List UInt8) : Ln :=
  match lineC l with
  | none => if 256 ≤ l.length then .err 3 else .err 17
  | some t => if t.getLast? = some 13 then .ok t.dropLast (t.length + 1) else .err 3
def lnPost (l : List UInt8) (at_ : Nat) (w : World) (e : Ending) (w' : World) : Prop :=
  (∃ e0, lnF l = .err e0 ∧ e = .returned (.tuple #[.string ⟨#[]⟩, .int .i64 0, .int .i64 e0]) ∧ w = w') ∨ (∃ x n, lnF l = .ok x n ∧ e = .returned (.tuple #[.string (tx x), .int .i64 ((at_ + n : Nat) : Int), .int .i64 0]) ∧ w = w')
/-! ### number -/
/-- where the digits end -/
structure Digs (t : ByteArray) (k : Nat) : Prop where
  le : k ≤ t.size
  all : AllHex t k
theorem Digs.split {t : ByteArray} {k : Nat} (h : Digs t k) (he : k = t.size ∨ (k < t.size ∧ aok (bt t k) = false)) : hxP (ls t) = (ls t).take k ∧ hxR (ls t) = (ls t).drop k := by
  have hall : ∀ c ∈ (ls t).take k, hexB c = true := by
    intro c hc
    obtain ⟨j, hj, rfl⟩ := List.getElem_of_mem hc
    rw [List.length_take] at hj
    have := h.all j (by omega)
    obtain ⟨c, gc, ec, -, -, -⟩ := get_ls (s := t) (k := j) (by have := h.le; omega)
    rw [List.getElem_take]
    rw [List.getElem?_eq_getElem (by rw [ls_len]; have := h.le; omega)] at gc
    rw [Option.some.inj gc]
    unfold hexB
    rw [← ec]; exact this
  have hd : ((ls t).drop k).takeWhile hexB = [] ∧ ((ls t).drop k).dropWhile hexB = (ls t).drop k := by
    rcases he with e | ⟨hlt, ha⟩
    · rw [List.drop_of_length_le (by rw [ls_len]; omega)]; exact ⟨rfl, rfl⟩
    · obtain ⟨c, gc, ec, -, -, dc⟩ := get_ls hlt
      have hf : hexB c = false := by unfold hexB; rw [← ec]; exact ha
      rw [dc]
      simp [List.takeWhile_cons, List.dropWhile_cons, hf]
  have e : ls t = (ls t).take k ++ (ls t).drop k := (List.take_append_drop _ _).symm
  have h1 : ((ls t).take k ++ (ls t).drop k).takeWhile hexB = (ls t).take k ++ ((ls t).drop k).takeWhile hexB := List.takeWhile_append_of_pos hall
  have h2 : ((ls t).take k ++ (ls t).drop k).dropWhile hexB = ((ls t).drop k).dropWhile hexB := List.dropWhile_append_of_pos hall
  unfold hxP hxR
  rw [← e] at h1 h2
  rw [h1, h2, hd.1, hd.2, List.append_nil]
  exact ⟨rfl, rfl⟩
theorem Digs.form {t : ByteArray} {k : Nat} (h : Digs t k) : (HexForm (tx ((ls t).take k)) ↔ 0 < k ∧ k ≤ 16) := by
  have hz : (tx ((ls t).take k)).size = k := by rw [tx_size, List.length_take, ls_len]; have := h.le; omega
  unfold HexForm
  rw [hz]
  refine ⟨fun x => ⟨x.1, x.2.1⟩, fun x => ⟨x.1, x.2, ?_⟩⟩
  intro j hj
  have e : bt (tx ((ls t).take k)) j = bt t j := by
    have h1 := bt_pre ((ls t).take k) ((ls t).drop k) j (by rw [List.length_take, ls_len]; have := h.le; omega)
    rw [List.take_append_drop] at h1
    have h2 : (⟨(ls t).toArray⟩ : ByteArray) = t := tx_ls t
    rw [h2] at h1
    exact h1.symm
  rw [e]; exact h.all j hj
def numPost (t : ByteArray) (m : Int) (w : World) (e : Ending) (w' : World) : Prop := e = .returned (.tuple #[.int .i64 (szN (numF (ls t) m)), .int .i64 (szE (numF (ls t) m))]) ∧ w = w'
theorem num_bad {t : ByteArray} {m : Int} {k : Nat} (h : Digs t k) (he : k = t.size ∨ (k < t.size ∧ aok (bt t k) = false)) (hok : okR ((ls t).drop k) = false) : szN (numF (ls t) m) = 0 ∧ szE (numF (ls t) m) = 3 := by
  obtain ⟨e1, e2⟩ := h.split he
  have hn : numF (ls t) m = .error 3 := by
    unfold numF
    rw [e2, hok]
    simp
  rw [hn]; exact ⟨rfl, rfl⟩
end Go.Proofs.YtdldoklkenhopaaGreatDoor.Ch
