/-
  A drawn region under an invariant that tells, of each operation that has come up, what its slot holds: for regions whose operations make memory in whatever order. No program is spoken of.
-/
import Derived.OrdersHeld
namespace Go.Proofs.Ytgoplgipjnollaa.Cr
open Go
set_option linter.unusedVariables false

/-- how many have not come up -/
def left (ops : Array Oper) (l : Array Bool) : Nat := ((List.range ops.size).filter fun i => !l.getD i true).length
theorem getD_set (l : Array Bool) (i j : Nat) (d : Bool) (h : i < l.size) : (l.setIfInBounds i true).getD j d = if i = j then true else l.getD j d := by
  by_cases e : i = j
  · subst e; simp [Array.getD, h]
  · rw [if_neg e]
    unfold Array.getD
    simp only [Array.size_setIfInBounds, Array.getInternal_eq_getElem]
    by_cases hj : j < l.size
    · rw [dif_pos hj, dif_pos hj, Array.getElem_setIfInBounds (by simpa using hj), if_neg e]
    · rw [dif_neg hj, dif_neg hj]
theorem ready_spec {md : Region.Mode} {ops : Array Oper} {l : Array Bool} {i : Nat} (h : i ∈ Region.ready md ops l) : i < ops.size ∧ l.getD i true = false ∧ i < l.size := by
  unfold Region.ready at h
  simp only [List.mem_filter, List.mem_range, Bool.and_eq_true, Bool.not_eq_true'] at h
  refine ⟨h.1, h.2.1, ?_⟩
  have e := h.2.1
  unfold Array.getD at e
  split at e
  · assumption
  · cases e
theorem left_set {md : Region.Mode} {ops : Array Oper} {l : Array Bool} {i : Nat} (h : i ∈ Region.ready md ops l) : left ops (l.setIfInBounds i true) < left ops l := by
  obtain ⟨h1, h2, h3⟩ := ready_spec h
  unfold left
  have e : ((List.range ops.size).filter fun j => !(l.setIfInBounds i true).getD j true) = ((List.range ops.size).filter fun j => !l.getD j true).filter fun j => j != i := by
    rw [List.filter_filter]
    apply List.filter_congr
    intro j _
    rw [getD_set l i j true h3]
    by_cases e : i = j
    · subst e; simp
    · simp [e, Ne.symm e]
  rw [e]
  have hm : i ∈ (List.range ops.size).filter fun j => !l.getD j true := by
    rw [List.mem_filter, List.mem_range]
    exact ⟨h1, by rw [h2]; rfl⟩
  have := List.length_filter_lt_length_iff_exists (l := (List.range ops.size).filter fun j => !l.getD j true) (p := fun j => j != i)
  exact this.2 ⟨i, hm, by simp⟩
theorem left_zero {md : Region.Mode} {ops : Array Oper} {l : Array Bool} (h : left ops l = 0) : Region.ready md ops l = [] := by
  apply List.eq_nil_iff_forall_not_mem.2
  intro i hi
  have := left_set hi
  omega

section
variable {P : Program} {md : Region.Mode} {ops : Array Oper} {Q : Exit → Act → World → Prop} {S : World → Prop}
theorem any_inv {I : Array Bool → Act → World → Prop} (hI : ∀ l a w, I l a w → S w)
    (hstep : ∀ l a w i, I l a w → i ∈ Region.ready md ops l → ∀ K : Act → World → Prop, (∀ a' w', I (l.setIfInBounds i true) a' w' → K a' w') → wpOp P ops Q i K a w)
    (hdone : ∀ l a w, I l a w → Region.ready md ops l = [] → Q .normal a w) :
    ∀ fuel l a w, left ops l ≤ fuel → I l a w → wpAnyH P md ops Q S fuel l a w
  | 0, l, a, w, hf, h => ⟨left_zero (by omega), hdone l a w h (left_zero (by omega))⟩
  | fuel + 1, l, a, w, hf, h => ⟨fun hr => hdone l a w h hr, fun i hi => hstep l a w i h hi _ fun a' w' h' =>
      ⟨hI _ _ _ h', any_inv hI hstep hdone fuel _ a' w' (by have := left_set hi; omega) h'⟩⟩

/-- does i wait for j? -/
def waits (md : Region.Mode) (ops : Array Oper) (i j : Nat) : Bool := ((ops[i]?).map fun o => o.after.any fun e => Region.binds md e && e.on == j).getD false
theorem ready_dep {l : Array Bool} {i : Nat} (h : i ∈ Region.ready md ops l) (j : Nat) (hw : waits md ops i j = true) : l.getD j false = true := by
  unfold Region.ready at h
  simp only [List.mem_filter, List.mem_range, Bool.and_eq_true, Bool.not_eq_true'] at h
  obtain ⟨h1, _, h3⟩ := h
  unfold waits at hw
  rw [Array.getElem?_eq_getElem h1] at h3 hw
  simp only [Option.map_some, Option.getD_some, Array.all_eq_true, Array.any_eq_true] at h3 hw
  obtain ⟨k, hk, e⟩ := hw
  have := h3 k hk
  simp only [Bool.and_eq_true, beq_iff_eq] at e
  rw [e.1, e.2] at this
  simpa using this
/-- every operation waits for earlier ones only -/
def sorted (ops : Array Oper) : Bool := (List.range ops.size).all fun i => ((ops[i]?).map fun o => o.after.all fun e => decide (e.on < i)).getD true
theorem all_listed {l : Array Bool} (hs : sorted ops = true) (hl : l.size = ops.size) (h : Region.ready md ops l = []) : ∀ n i, i < n → i < ops.size → l.getD i false = true
  | 0, i, hi, _ => by omega
  | n + 1, i, hi, hn => by
    rcases Nat.lt_or_ge i n with h1 | h1
    · exact all_listed hs hl h n i h1 hn
    · by_cases c : l.getD i true = true
      · have hil : i < l.size := by omega
        simp only [Array.getD, hil, dif_pos] at c ⊢
        exact c
      · exfalso
        have : i ∈ Region.ready md ops l := by
          unfold Region.ready
          simp only [List.mem_filter, List.mem_range, Bool.and_eq_true, Bool.not_eq_true']
          refine ⟨hn, by simpa using c, ?_⟩
          rw [Array.getElem?_eq_getElem hn]
          simp only [Option.map_some, Option.getD_some, Array.all_eq_true]
          intro k hk
          have hs' := hs
          unfold sorted at hs
          simp only [List.all_eq_true, List.mem_range] at hs
          have hq := hs i hn
          rw [Array.getElem?_eq_getElem hn] at hq
          simp only [Option.map_some, Option.getD_some, Array.all_eq_true, decide_eq_true_eq] at hq
          have hlt := hq k hk
          have := all_listed hs' hl h n (ops[i].after[k].on) (by omega) (by omega)
          rw [this]; simp
        rw [h] at this
        cases this
end
end Go.Proofs.Ytgoplgipjnollaa.Cr
