/-
  Contract of the document's Padded: bytes with what follows them.
-/
import Derived.Test.YtmnkhcefdpcheaaDoorShRefB
import Derived.Lib.ConvBytes
import Derived.ArgAppend
import Derived.Laws.IdiomStrings
namespace Go.Proofs.YtmnkhcefdpcheaaDoor.Sh
open Go.RowKit Go.PlainAid
set_option linter.unusedVariables false
set_option linter.unusedSimpArgs false

/-- v is a row of bytes that reads as l; what is spare in it may be written -/
structure HasB (base : Nat) (w : World) (v : Value) (l : List Nat) : Prop where
  is : ∃ g cap, v = .slice (some ⟨g, 0, none⟩) l.length cap ∧ base ≤ g ∧ l.length ≤ cap ∧ (∀ (j x : Nat), l[j]? = some x → w.cell? ⟨g, j, none⟩ = some (.int .u8 (x : Int))) ∧
    (∀ j, l.length ≤ j → j < cap → (w.cell? ⟨g, j, none⟩).isSome = true ∧ w.frozen? ⟨g, j, none⟩ = false)
theorem HasB.old {base : Nat} {w w' : World} {v : Value} {l : List Nat} (h : HasB base w v l) (hw : ∀ g, g < w.heap.size → w'.heap[g]? = w.heap[g]?) : HasB base w' v l := by
  obtain ⟨g, cap, e, hb, hc, h1, h2⟩ := h.is
  refine ⟨g, cap, e, hb, hc, fun j x hx => ?_, fun j a b => ?_⟩
  · have hg : g < w.heap.size := World.block_lt_of_cell? w _ (h1 j x hx)
    rw [World.cell?_of_block (w := w) (hw g hg)]; exact h1 j x hx
  · obtain ⟨u, hu⟩ := Option.isSome_iff_exists.1 (h2 j a b).1
    have hg : g < w.heap.size := World.block_lt_of_cell? w _ hu
    rw [World.cell?_of_block (w := w) (hw g hg), World.frozen?_of_block (w := w) (hw g hg)]; exact h2 j a b
theorem HasB.alloc {base : Nat} {w : World} {v : Value} {l : List Nat} (h : HasB base w v l) (o : Obj) : HasB base (w.alloc o) v l := h.old fun g hg => Below.heap_alloc _ _ _ hg
theorem info5 : (Tryd.prog.info? 5).map (fun i => (i.zero, i.size, i.bytes)) = some (some (.int .u8 0), 1, 1) := by kernel_rfl
theorem wpl_app1 {ops : Array Oper} {rest : List Oper} {o : Oper} {a : Act} {w : World} {Q : Exit → Act → World → Prop} {base B : Nat} {v : Value} {l : List Nat} {x : Nat} {s y : Operand}
    (h : HasB base w v l) (hb : base ≤ w.heap.size) (hlen : l.length + 1 ≤ 1099511627776) (hx : w.cell? ⟨B, 0, none⟩ = some (.int .u8 (x : Int)))
    (hgd : o.guard = none) (hop : o.op = Op.call { callee := Callee.builtin Builtin.append, args := #[s, y], argTypes := #[44, 44] }) (hs : a.eval s = v) (hy : a.eval y = .slice (some ⟨B, 0, none⟩) 1 1)
    (hK : ∀ v' w', HasB base w' v' (l ++ [x]) → Below base w w' → wpList Tryd.prog ops Q rest (a.put o.dst v') w') : wpList Tryd.prog ops Q (o :: rest) a w := by
  obtain ⟨i0, hi, hz0, hz1, hz2⟩ := info_parts info5
  obtain ⟨g, cap, rfl, hg, hc, h1, h2⟩ := h.is
  refine wpList_append_arg w hgd s y 44 hop 5 i0 (.int .u8 0) 1 1 Tryd.underlying44 hi hz0 hz1 hz2 rfl (by decide) g 0 l.length cap (vals .u8 l) hs (by rw [vals_len, Nat.mul_one]) ?_ ⟨B, 0, none⟩ 1 1 [.int .u8 (x : Int)] hy rfl ?_ (by simp [Value.oneCell']) ?_ (by unfold maxLen; omega) (by omega) ?_ ?_
  · intro j u hu
    rw [Nat.zero_add]
    have hj : j < l.length := by
      have := (List.getElem?_eq_some_iff.1 hu).1
      rwa [vals_len] at this
    rw [vals_get hj] at hu
    rw [h1 j l[j] (List.getElem?_eq_getElem hj), ← hu, at0_lt hj]
  · intro j u hu
    rcases j with _ | j
    · simp at hu; subst hu; rw [add_addr]; exact hx
    · simp at hu
  · intro hr j hj
    simp at hj; subst hj
    simp only [Nat.zero_add, Nat.mul_one, Nat.add_zero]
    exact h2 l.length (Nat.le_refl _) (by omega)
  · intro hr
    simp only [Nat.zero_add, Nat.mul_one, World.setCells]
    have sp := h2 l.length (Nat.le_refl _) (by omega)
    have := hK (.slice (some ⟨g, 0, none⟩) (l ++ [x]).length cap) (w.setCell ⟨g, l.length, none⟩ (.int .u8 (x : Int))) ⟨g, cap, rfl, hg, by simp; omega, ?_, ?_⟩ ((Below.refl _ _).setCell hg _)
    · rw [List.length_append] at this; exact this
    · intro j z hz
      by_cases e : j = l.length
      · subst e
        simp at hz; subst hz
        have := World.cell?_setCells_in g [.int .u8 (x : Int)] l.length w (by intro j hj; simp at hj; subst hj; simpa using sp.1) 0 (by simp)
        simpa [World.setCells] using this
      · have hj : j < l.length := by
          have := (List.getElem?_eq_some_iff.1 hz).1
          simp at this; omega
        refine cell_ne e (h1 j z ?_)
        rwa [List.getElem?_append_left hj] at hz
    · intro j a b
      simp at a
      obtain ⟨s1, s2⟩ := h2 j (by omega) b
      refine ⟨?_, by rw [World.frozen?_setCell]; exact s2⟩
      obtain ⟨u, hu⟩ := Option.isSome_iff_exists.1 s1
      rw [cell_ne (by omega) hu]; rfl
  · intro hr v' w' hown hgrow
    have bel : Below base w w' := (Below.refl _ _).grown hgrow hb (fun k hk => by cases hk)
    refine hK v' w' ?_ bel
    have hn := hown.1
    rcases hown.2 with ⟨_, h0⟩ | ⟨g', cap', cur, rfl, hb', hg', hnc, hcm, hcs, htk⟩
    · omega
    · rw [Nat.mul_one] at htk hcs
      refine ⟨g', cap', by rw [List.length_append]; rfl, by omega, by rw [List.length_append]; exact hnc, ?_, ?_⟩
      · intro j z hz
        rw [cell_of_row _ _ _ _ _ _ hg']
        have hj : j < (l ++ [x]).length := (List.getElem?_eq_some_iff.1 hz).1
        have e : (vals .u8 l ++ [.int .u8 (x : Int)])[j]? = some (.int .u8 (z : Int)) := by
          have : vals .u8 l ++ [.int .u8 (x : Int)] = vals .u8 (l ++ [x]) := by simp [vals]
          rw [this, vals_get hj, at0_lt hj]
          have := (List.getElem?_eq_some_iff.1 hz).2
          rw [this]
        rw [← htk, List.getElem?_take] at e
        split at e
        · simpa using e
        · cases e
      · intro j a b
        rw [cell_of_row _ _ _ _ _ _ hg', frozen_of_row _ _ _ _ _ hg']
        simp at a
        exact ⟨by simp [show j < cur.size by omega], rfl⟩
end Go.Proofs.YtmnkhcefdpcheaaDoor.Sh
