/-
  A drawn region whose last operation waits for all the others, for some of them through another one: what is held need not be held behind it. No program is spoken of.
-/
import Derived.Test.YtdmgobffhpgjlaaGreatPkLast
namespace Go.Proofs.YtdmgobffhpgjlaaGreat.Pk
open Go
set_option linter.unusedVariables false
set_option maxRecDepth 20000

section
variable {P : Program} {md : Region.Mode} {ops : Array Oper} {Q : Exit → Act → World → Prop} {n : Nat}
/-- what is listed has all listed that it waits for -/
def Closed (md : Region.Mode) (ops : Array Oper) (l : Array Bool) : Prop := ∀ i, l.getD i false = true → ∀ o, ops[i]? = some o → ∀ e ∈ o.after, Region.binds md e = true → l.getD e.on false = true
theorem closed_none (k : Nat) : Closed md ops (Array.replicate k false) := by
  intro i hi
  exfalso
  have : (Array.replicate k false).getD i false = false := by
    by_cases c : i < k <;> simp [c]
  rw [this] at hi
  cases hi
theorem closed_set {l : Array Bool} (h : Closed md ops l) {i : Nat} (hi : i ∈ Region.ready md ops l) : Closed md ops (l.setIfInBounds i true) := by
  intro k hk o ho e he hb
  obtain ⟨_, o', ho', hall⟩ := mem_ready.1 hi
  by_cases c : i = k
  · subst c
    rw [ho] at ho'
    injection ho' with ho'
    subst ho'
    exact getD_set_true (hall e he hb)
  · rw [getD_set_ne false c] at hk
    exact getD_set_true (h k hk o ho e he hb)
/-- nobody waits for one that comes later; number n waits for all the others -/
def lastB2 (md : Region.Mode) (ops : Array Oper) (n : Nat) : Bool :=
  ops.size == n + 1 && (List.range n).all (fun i => Region.waitsFor md ops n i || (List.range n).any fun m => Region.waitsFor md ops n m && Region.waitsFor md ops m i) && (List.range ops.size).all fun i => match ops[i]? with
    | some o => o.after.all fun e => decide (e.on < i)
    | none => true
theorem lastB2_spec (h : lastB2 md ops n = true) : ops.size = n + 1 ∧ (∀ i, i < n → Region.waitsFor md ops n i = true ∨ ∃ m, Region.waitsFor md ops n m = true ∧ Region.waitsFor md ops m i = true) ∧ ∀ (i : Nat) (o : Oper), ops[i]? = some o → ∀ e ∈ o.after, e.on < i := by
  unfold lastB2 at h
  simp only [Bool.and_eq_true, beq_iff_eq, List.all_eq_true, List.mem_range, Bool.or_eq_true, List.any_eq_true] at h
  refine ⟨h.1.1, fun i hi => ?_, fun i o ho e he => ?_⟩
  · rcases h.1.2 i hi with c | ⟨m, _, c⟩
    · exact .inl c
    · exact .inr ⟨m, c⟩
  · have hi := (Array.getElem?_eq_some_iff.1 ho).1
    have := h.2 i hi
    rw [ho] at this
    simp only [Array.all_eq_true_iff_forall_mem, decide_eq_true_eq] at this
    exact this e he
theorem any_last2 (hB : lastB2 md ops n = true) : ∀ (fuel : Nat) (l : Array Bool) (a : Act) (w : World), Closed md ops l → l.size = ops.size → l.getD n true = false →
    wpAny P md ops (lastQ P ops Q n) fuel (l.setIfInBounds n true) a w → wpAny P md ops Q (fuel + 1) l a w := by
  obtain ⟨hn, hw, hlow⟩ := lastB2_spec hB
  have least : ∀ (l : Array Bool), l.size = ops.size → l.getD n true = false → Region.ready md ops l ≠ [] := by
    intro l hs hl hr
    have all : ∀ i, i ≤ n → l.getD i false = true := by
      intro i
      induction i using Nat.strongRecOn with
      | ind i ih =>
        intro hi
        cases hx : l.getD i false with
        | true => rfl
        | false =>
          exfalso
          have hx' : l.getD i true = false := getD_in (by omega) hx
          have hm : i ∈ Region.ready md ops l := mem_ready.2 ⟨hx', ops[i]'(by omega), Array.getElem?_eq_getElem (by omega), fun e he _ => by
            have := hlow i _ (Array.getElem?_eq_getElem (by omega)) e he
            exact ih e.on this (by omega)⟩
          rw [hr] at hm
          cases hm
    have := all n (Nat.le_refl _)
    rw [getD_both hl] at this
    cases this
  have alone : ∀ (l : Array Bool), Closed md ops l → n ∈ Region.ready md ops l → Region.ready md ops (l.setIfInBounds n true) = [] := by
    intro l hc hm
    apply List.eq_nil_iff_forall_not_mem.2
    intro j hj
    obtain ⟨h0, o, ho, _⟩ := mem_ready.1 hj
    have hjn : j ≠ n := by
      rintro rfl
      obtain ⟨g0, _⟩ := mem_ready.1 hm
      have hlt : j < l.size := by
        rcases Nat.lt_or_ge j l.size with c | c
        · exact c
        · simp [Array.getElem?_eq_none c] at g0
      simp [hlt] at h0
    rw [getD_set_ne true (Ne.symm hjn)] at h0
    have hlt : j < n := by have := (Array.getElem?_eq_some_iff.1 ho).1; omega
    obtain ⟨_, o', ho', hall⟩ := mem_ready.1 hm
    have listed : ∀ m, Region.waitsFor md ops n m = true → l.getD m false = true := by
      intro m hm2
      obtain ⟨oj, hoj, e, he, hb, hon⟩ := Region.waitsFor_spec hm2
      rw [hoj] at ho'
      injection ho' with ho'
      subst ho'
      have := hall e he hb
      rw [hon] at this
      exact this
    have yes : l.getD j false = true := by
      rcases hw j hlt with c | ⟨m, c1, c2⟩
      · exact listed j c
      · obtain ⟨oj, hoj, e, he, hb, hon⟩ := Region.waitsFor_spec c2
        have := hc m (listed m c1) oj hoj e he hb
        rw [hon] at this
        exact this
    rw [getD_both h0] at yes
    cases yes
  intro fuel
  induction fuel with
  | zero =>
    intro l a w hc hs hl H
    refine ⟨fun hr => absurd hr (least l hs hl), fun i hi => ?_⟩
    by_cases e : i = n
    · subst e
      exact wpOp_mono (fun a' w' q => wpAny_done (alone l hc hi) q _) H.2
    · have := ready_mono hi e
      rw [H.1] at this
      cases this
  | succ fuel ih =>
    intro l a w hc hs hl H
    refine ⟨fun hr => absurd hr (least l hs hl), fun i hi => ?_⟩
    by_cases e : i = n
    · subst e
      exact wpOp_mono (fun a' w' q => wpAny_done (alone l hc hi) q _) (H.1 (alone l hc hi))
    · have h1 := wpOp_lastQ (H.2 i (ready_mono hi e))
      refine wpOp_mono (fun a' w' q => ?_) h1
      refine ih (l.setIfInBounds i true) a' w' (closed_set hc hi) (by simpa using hs) (by rw [getD_set_ne true e]; exact hl) ?_
      rw [Array.setIfInBounds_comm _ _ e]
      exact q
end
section
variable {P : Program} {ops : Array Oper} {Q : Exit → Act → World → Prop} {S : World → Prop}
/-- the beginning: the last operation's turn is the post of the others -/
theorem held_but_last2 (n : Nat) {id : Nat} {a : Act} {w : World} (hm : P.follows .mixedOrders = true) (hB : lastB2 .any ops n = true)
    (h : wpAnyH P .any ops (lastQ P ops Q n) S n ((Array.replicate ops.size false).setIfInBounds n true) a w.drew) : (Code.region id ops true).wp P Q a w := by
  obtain ⟨hn, _, _⟩ := lastB2_spec hB
  refine wp_region_any hm ?_
  have := any_last2 hB n (Array.replicate ops.size false) a w.drew (closed_none _) (by simp) (by simp [hn]) (wpAny_of_held _ _ _ _ h)
  rw [hn]
  rw [hn] at this
  exact this
end
end Go.Proofs.YtdmgobffhpgjlaaGreat.Pk
