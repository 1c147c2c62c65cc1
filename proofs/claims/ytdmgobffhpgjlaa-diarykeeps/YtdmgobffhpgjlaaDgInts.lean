/-
  Rows of numbers and of bools among a law's arguments; the power comes again, with numbers that were handed in.
-/
import Derived.Test.YtdmgobffhpgjlaaDgRow
import Derived.SliceStrings
import Derived.Deep.Slices
namespace Go.Proofs.Ytdmgobffhpgjlaa.Sl.Dg
open Go.RowKit Go.PlainAid Go.Proofs.Ytdmgobffhpgjlaa.Cr
open Go.Proofs.Ytdmgobffhpgjlaa.Pk (Bs Fi Dk kl HasD has_new KeepAt on_post zone DiskAt)
set_option linter.unusedVariables false
set_option maxRecDepth 20000
set_option linter.unusedSimpArgs false

structure BoolsAt (w : World) (v : Value) (l : List Bool) : Prop where
  is : ∃ base cap, v = .slice base l.length cap ∧ ∀ j x, l[j]? = some x → ∃ a : Addr, base = some a ∧ a.block < w.heap.size ∧ w.cell? (a.add j) = some (.bool x)
theorem none_bools (w : World) : BoolsAt w (.slice none 0 0) [] := ⟨none, 0, rfl, by simp⟩
theorem trod_bool {H : Type} {enc : TypeId × Value → H} {P : Program} {w : World} {base : Nat} {spare : Nat → Bool} {held : Bool} {fuel : Nat} {t : TypeId} {cs : List Value} {x : DataW H × List MemPlace}
    (ht : P.underlying t = some .bool) (h : DataW.trod enc P w base spare held fuel t cs = some x) : ∃ n, cs = [.bool n] := by
  cases fuel with
  | zero => simp [DataW.trod] at h
  | succ n =>
    unfold DataW.trod at h
    rw [ht] at h
    split at h <;> simp_all
theorem open_bools {H : Type} {enc : TypeId × Value → H} {P : Program} {w : World} {base : Nat} {spare : Nat → Bool} {held : Bool} {fuel : Nat} {t e : TypeId} {b : Option Addr} {len cap : Nat} {x : DataW H × List MemPlace}
    (ht : P.underlying t = some (.slice e)) (he : P.underlying e = some .bool) (hc : P.cellsOf e = 1) (h : DataW.trod enc P w base spare held fuel t [.slice b len cap] = some x) :
    ∃ l : List Bool, BoolsAt w (.slice b len cap) l ∧ l.length ≤ 9223372036854775807 := by
  rcases Deep.open_slice1 ht hc h with ⟨hcs, _⟩ | ⟨a, len', cap', m, n, V, D, Pl, hcs, hb, hl, hm, hmm, _, hx⟩
  · simp at hcs
    obtain ⟨rfl, rfl, rfl⟩ := hcs
    exact ⟨[], none_bools w, by simp⟩
  · simp at hcs
    obtain ⟨rfl, rfl, rfl⟩ := hcs
    have hlm : len ≤ m := by rw [hmm]; split <;> omega
    have hf : ∀ i, i < len → ∃ y, w.cell? (a.add i) = some (.bool y) := by
      intro i hi
      obtain ⟨h1, h2⟩ := hx i (by omega)
      obtain ⟨y, e1⟩ := trod_bool he h2
      simp only [List.cons.injEq, and_true] at e1
      rw [e1] at h1
      exact ⟨y, h1⟩
    obtain ⟨Y, hY⟩ := Deep.choose_lt (α := Bool) (p := fun i y => w.cell? (a.add i) = some (.bool y)) hf
    refine ⟨(List.range len).map Y, ⟨some a, cap, by simp, ?_⟩, ?_⟩
    · intro j y hj
      have hlt : j < len := by
        have := (List.getElem?_eq_some_iff.1 hj).1
        simpa using this
      have : y = Y j := by simpa [hlt] using hj.symm
      subst this
      have hcell := hY j hlt
      have hb := World.block_lt_of_cell? w _ hcell
      rw [add_block] at hb
      exact ⟨a, rfl, hb, hcell⟩
    · simp; unfold maxLen at hm; omega

structure IntsAt (w : World) (v : Value) (l : List Int) : Prop where
  is : ∃ base cap, v = .slice base l.length cap ∧ l.length ≤ cap ∧ ∀ j x, l[j]? = some x → ∃ a : Addr, base = some a ∧ a.block < w.heap.size ∧ w.cell? (a.add j) = some (.int .i64 x)
theorem none_ints (w : World) : IntsAt w (.slice none 0 0) [] := ⟨none, 0, rfl, Nat.le_refl _, by simp⟩
theorem trod_int {H : Type} {enc : TypeId × Value → H} {P : Program} {w : World} {base : Nat} {spare : Nat → Bool} {held : Bool} {fuel : Nat} {t : TypeId} {cs : List Value} {x : DataW H × List MemPlace}
    (ht : P.underlying t = some (.int .i64)) (h : DataW.trod enc P w base spare held fuel t cs = some x) : ∃ n, cs = [.int .i64 n] := by
  cases fuel with
  | zero => simp [DataW.trod] at h
  | succ n =>
    unfold DataW.trod at h
    rw [ht] at h
    split at h <;> simp_all
theorem open_ints {H : Type} {enc : TypeId × Value → H} {P : Program} {w : World} {base : Nat} {spare : Nat → Bool} {held : Bool} {fuel : Nat} {t e : TypeId} {b : Option Addr} {len cap : Nat} {x : DataW H × List MemPlace}
    (ht : P.underlying t = some (.slice e)) (he : P.underlying e = some (.int .i64)) (hc : P.cellsOf e = 1) (h : DataW.trod enc P w base spare held fuel t [.slice b len cap] = some x) :
    ∃ l : List Int, IntsAt w (.slice b len cap) l ∧ l.length ≤ 9223372036854775807 := by
  rcases Deep.open_slice1 ht hc h with ⟨hcs, _⟩ | ⟨a, len', cap', m, n, V, D, Pl, hcs, hb, hl, hm, hmm, _, hx⟩
  · simp at hcs
    obtain ⟨rfl, rfl, rfl⟩ := hcs
    exact ⟨[], none_ints w, by simp⟩
  · simp at hcs
    obtain ⟨rfl, rfl, rfl⟩ := hcs
    have hlm : len ≤ m := by rw [hmm]; split <;> omega
    have hf : ∀ i, i < len → ∃ y, w.cell? (a.add i) = some (.int .i64 y) := by
      intro i hi
      obtain ⟨h1, h2⟩ := hx i (by omega)
      obtain ⟨y, e1⟩ := trod_int he h2
      simp only [List.cons.injEq, and_true] at e1
      rw [e1] at h1
      exact ⟨y, h1⟩
    obtain ⟨Y, hY⟩ := Deep.choose_lt (α := Int) (p := fun i y => w.cell? (a.add i) = some (.int .i64 y)) hf
    refine ⟨(List.range len).map Y, ⟨some a, cap, by simp, by simpa using hl, ?_⟩, ?_⟩
    · intro j y hj
      have hlt : j < len := by
        have := (List.getElem?_eq_some_iff.1 hj).1
        simpa using this
      have : y = Y j := by simpa [hlt] using hj.symm
      subst this
      have hcell := hY j hlt
      have hb := World.block_lt_of_cell? w _ hcell
      rw [add_block] at hb
      exact ⟨a, rfl, hb, hcell⟩
    · simp; unfold maxLen at hm; omega

section
variable {w0 w w' : World} {p q : Nat} {D D' : Dk} {L L' : Lg} {X : List (Nat × Obj)}
theorem on_raw (h : HasD w0 w p D X) {v : Value} {ks : List Int} (hv : IntsAt w0 v ks) (hl : ks.length ≤ 1099511627776) :
    Calls Try.prog 15 #[.pointer (some ⟨p, 0, none⟩), v] w fun e w' => e = .returned (.tuple #[]) ∧ HasD w0 w' p (D.on ks) X := by
  refine on_post h (fun m G hd hz => ?_) hl
  obtain ⟨base, cap, rfl, hc, hcell⟩ := hv.is
  refine ⟨base, cap, rfl, hc, fun j x hj => ?_⟩
  obtain ⟨a, rfl, ha, hcl⟩ := hcell j x hj
  refine ⟨a, rfl, Nat.lt_of_lt_of_le ha h.below.size, fun z => by have := hz _ z; omega, ?_⟩
  rw [World.cell?_of_block (w := w0) (by rw [add_block]; exact h.below.block _ ha)]
  exact hcl
theorem on_args (h : HasD w0 w p D X) {v : Value} {ks : List Int} (hv : IntsAt w0 v ks) (hl : ks.length ≤ 1099511627776) :
    Calls Try.prog 15 #[.pointer (some ⟨p, 0, none⟩), v] w fun e w' => e = .returned (.tuple #[]) ∧ HasD w0 w' p (D.on ks) X ∧ Kp w w' :=
  dframe h (R := fun e _ => e = .returned (.tuple #[])) fun X h => on_raw h hv hl
theorem arm_mild {xs : List Sp} {j : Nat} {room N : Int} (h : Mild D xs j room N) (a b c : Int) : Mild (D.arm a b c) xs j room N := by
  unfold Dk.arm
  split
  · exact ⟨h.l, h.j, h.r, h.n, h.can⟩
  · exact ⟨h.l, h.j, h.r, h.n, h.can⟩
end
end Go.Proofs.Ytdmgobffhpgjlaa.Sl.Dg
