/-
  Things in memory side by side: each in blocks of its own; what a call to one, or to two, leaves of the others. No program is spoken of.
-/
import Derived.Test.YtdldoklkenhopaaGreatDoorInNext2
namespace Go.Proofs.YtdldoklkenhopaaGreatDoor.In
open Go.RowKit Go.PlainAid
open Hx Fi Ch
set_option linter.unusedVariables false
set_option maxRecDepth 20000
set_option linter.unusedSimpArgs false

structure Thing where
  P : World → (Nat → Prop) → Prop
  kept : ∀ w w' Z, P w Z → w.heap.size ≤ w'.heap.size → (∀ b, Z b → w'.heap[b]? = w.heap[b]?) → P w' Z
  lt : ∀ w Z, P w Z → ∀ b, Z b → b < w.heap.size
def noT : Thing := ⟨fun _ Z => ∀ b, ¬ Z b, fun _ _ _ h _ _ => h, fun _ _ h b hb => absurd hb (h b)⟩
/-- since w0 nothing has turned but Z0 and what is new; the things L stand apart from one another -/
structure Owns (w0 : World) (Z0 : Nat → Prop) (w : World) (L : List Thing) : Prop where
  is : ∃ Zf : Nat → Nat → Prop, (∀ (i : Nat) (T : Thing), L[i]? = some T → T.P w (Zf i)) ∧ (∀ i j : Nat, i < L.length → j < L.length → i ≠ j → ∀ b, Zf i b → ¬ Zf j b) ∧ Goes w0 w Z0 (fun b => ∃ i, i < L.length ∧ Zf i b)
def noZ : Nat → Prop := fun _ => False
theorem Owns.none (w : World) (k : Nat) : Owns w noZ w (List.replicate k noT) := by
  refine ⟨fun _ _ => False, fun i T h => ?_, fun i j _ _ _ b hb => hb.elim, rfl, rfl, rfl, Nat.le_refl _, fun _ _ _ => rfl, fun b ⟨_, _, x⟩ => x.elim⟩
  obtain ⟨h1, h2⟩ := List.getElem?_eq_some_iff.1 h
  rw [List.getElem_replicate] at h2
  subst h2
  exact fun b hb => hb
theorem Owns.bel {w0 w : World} {L : List Thing} (h : Owns w0 noZ w L) : Below w0.heap.size w0 w := by
  obtain ⟨Zf, _, _, g⟩ := h
  exact ⟨g.os, g.tape, g.output, g.size, fun b hb => g.block b hb fun x => x⟩
/-- one thing, and room for others -/
theorem Owns.start (w : World) {T : Thing} {Z : Nat → Prop} (h : T.P w Z) (k : Nat) : Owns w Z w (T :: List.replicate k noT) := by
  refine ⟨fun i b => i = 0 ∧ Z b, fun i S hi => ?_, fun i j _ _ hne b x y => hne (x.1.trans y.1.symm), rfl, rfl, rfl, Nat.le_refl _, fun _ _ _ => rfl, fun b ⟨i, _, _, x⟩ => .inl x⟩
  cases i with
  | zero =>
    obtain rfl := Option.some.inj hi
    have e : (fun b => 0 = 0 ∧ Z b) = Z := by funext b; simp
    show T.P w (fun b => 0 = 0 ∧ Z b)
    rw [e]; exact h
  | succ i =>
    rw [List.getElem?_cons_succ] at hi
    obtain ⟨h1, h2⟩ := List.getElem?_eq_some_iff.1 hi
    rw [List.getElem_replicate] at h2
    subst h2
    exact fun b hb => absurd hb.1 (by omega)
section
variable {w0 w : World} {Z0 : Nat → Prop} {L : List Thing}
theorem Owns.below {w' : World} (h : Owns w0 Z0 w L) (hb : Below w.heap.size w w') : Owns w0 Z0 w' L := by
  obtain ⟨Zf, h1, h2, g⟩ := h
  exact ⟨Zf, fun i T hi => T.kept _ _ _ (h1 i T hi) hb.size fun k hk => hb.block k (T.lt _ _ (h1 i T hi) k hk), h2, g.trans (Goes.of_below hb _)⟩
/-- a step: the things at I turn, all others stay -/
theorem Owns.step {Zf : Nat → Nat → Prop} (h1 : ∀ (i : Nat) (T : Thing), L[i]? = some T → T.P w (Zf i)) (h2 : ∀ i j : Nat, i < L.length → j < L.length → i ≠ j → ∀ b, Zf i b → ¬ Zf j b) (g0 : Goes w0 w Z0 (fun b => ∃ i, i < L.length ∧ Zf i b))
    (I : Nat → Prop) {w' : World} {L' : List Thing} {Zf' : Nat → Nat → Prop} (hl : L'.length = L.length)
    (g : Goes w w' (fun b => ∃ i, I i ∧ i < L.length ∧ Zf i b) (fun b => ∃ i, I i ∧ i < L.length ∧ Zf' i b))
    (hin : ∀ i T, I i → L'[i]? = some T → T.P w' (Zf' i)) (hout : ∀ i, ¬ I i → L'[i]? = L[i]? ∧ ∀ b, Zf' i b → Zf i b) (hout2 : ∀ i, ¬ I i → ∀ b, Zf i b → Zf' i b)
    (hd : ∀ i j, I i → I j → i ≠ j → ∀ b, Zf' i b → ¬ Zf' j b) : Owns w0 Z0 w' L' := by
  have get : ∀ i, i < L.length → ∃ T, L[i]? = some T := fun i hi => ⟨_, List.getElem?_eq_getElem hi⟩
  have lt : ∀ i, i < L.length → ∀ b, Zf i b → b < w.heap.size := fun i hi b hb => by
    obtain ⟨T, hT⟩ := get i hi
    exact T.lt _ _ (h1 i T hT) b hb
  have zeq : ∀ i, ¬ I i → Zf' i = Zf i := fun i hi => by
    funext b
    exact propext ⟨(hout i hi).2 b, hout2 i hi b⟩
  refine ⟨Zf', ?_, ?_, ?_⟩
  · intro i T hi
    have hlt : i < L.length := by rw [← hl]; exact (List.getElem?_eq_some_iff.1 hi).1
    by_cases c : I i
    · exact hin i T c hi
    · have hi2 := hi
      rw [(hout i c).1] at hi2
      rw [zeq i c]
      refine T.kept _ _ _ (h1 i T hi2) g.size fun k hk => g.block k (lt i hlt k hk) ?_
      rintro ⟨j, hj, hjl, hz⟩
      exact h2 i j hlt hjl (fun e => c (by rw [e]; exact hj)) k hk hz
  · intro i j hi hj hne k hk hk2
    rw [hl] at hi hj
    by_cases ci : I i
    · by_cases cj : I j
      · exact hd i j ci cj hne k hk hk2
      · rw [zeq j cj] at hk2
        rcases g.sub k ⟨i, ci, hi, hk⟩ with ⟨m, hm, hml, hz⟩ | x
        · exact h2 m j hml hj (fun e => cj (by rw [← e]; exact hm)) k hz hk2
        · have := lt j hj k hk2; omega
    · rw [zeq i ci] at hk
      by_cases cj : I j
      · rcases g.sub k ⟨j, cj, hj, hk2⟩ with ⟨m, hm, hml, hz⟩ | x
        · exact h2 m i hml hi (fun e => ci (by rw [← e]; exact hm)) k hz hk
        · have := lt i hi k hk; omega
      · rw [zeq j cj] at hk2
        exact h2 i j hi hj hne k hk hk2
  · refine ⟨g.os.trans g0.os, g.tape.trans g0.tape, g.output.trans g0.output, Nat.le_trans g0.size g.size, fun b hb hn => ?_, ?_⟩
    · refine (g.block b (Nat.lt_of_lt_of_le hb g0.size) ?_).trans (g0.block b hb hn)
      rintro ⟨i, _, hi, hz⟩
      rcases g0.sub b ⟨i, hi, hz⟩ with x | x
      · exact hn x
      · omega
    · rintro b ⟨i, hi, hz⟩
      rw [hl] at hi
      by_cases ci : I i
      · rcases g.sub b ⟨i, ci, hi, hz⟩ with ⟨m, _, hml, hx⟩ | x
        · exact g0.sub b ⟨m, hml, hx⟩
        · exact .inr (Nat.le_trans g0.size x)
      · rw [zeq i ci] at hz
        exact g0.sub b ⟨i, hi, hz⟩
def zput (Zf : Nat → Nat → Prop) (i : Nat) (Z : Nat → Prop) : Nat → Nat → Prop := fun j => if j = i then Z else Zf j
theorem zput_same (Zf : Nat → Nat → Prop) (i : Nat) (Z : Nat → Prop) : zput Zf i Z i = Z := if_pos rfl
theorem zput_other (Zf : Nat → Nat → Prop) {i j : Nat} (Z : Nat → Prop) (h : j ≠ i) : zput Zf i Z j = Zf j := if_neg h
/-- one thing turns -/
theorem Owns.one (h : Owns w0 Z0 w L) (i : Nat) {T : Thing} (hi : L[i]? = some T) : ∃ Z, T.P w Z ∧ ∀ w' T' Z', T'.P w' Z' → Goes w w' Z Z' → Owns w0 Z0 w' (L.set i T') := by
  obtain ⟨Zf, h1, h2, g0⟩ := h
  have hlt := (List.getElem?_eq_some_iff.1 hi).1
  refine ⟨Zf i, h1 i T hi, fun w' T' Z' hp g => ?_⟩
  refine Owns.step h1 h2 g0 (fun j => j = i) (Zf' := zput Zf i Z') (by rw [List.length_set]) ?_ ?_ ?_ ?_ ?_
  · have e1 : (fun b => ∃ j, j = i ∧ j < L.length ∧ Zf j b) = Zf i := by
      funext b
      exact propext ⟨fun ⟨j, e, _, x⟩ => by rw [← e]; exact x, fun x => ⟨i, rfl, hlt, x⟩⟩
    have e2 : (fun b => ∃ j, j = i ∧ j < L.length ∧ zput Zf i Z' j b) = Z' := by
      funext b
      exact propext ⟨fun ⟨j, e, _, x⟩ => by rw [e, zput_same] at x; exact x, fun x => ⟨i, rfl, hlt, by rw [zput_same]; exact x⟩⟩
    rw [e1, e2]; exact g
  · rintro j T'' rfl hj
    rw [List.getElem?_set_self hlt] at hj
    obtain rfl := Option.some.inj hj
    rw [zput_same]; exact hp
  · intro j hj
    exact ⟨List.getElem?_set_ne (Ne.symm hj), fun b hb => by rw [zput_other _ _ hj] at hb; exact hb⟩
  · intro j hj b hb
    rw [zput_other _ _ hj]; exact hb
  · rintro j k rfl rfl hne
    exact absurd rfl hne
/-- two things turn -/
theorem Owns.two (h : Owns w0 Z0 w L) (i j : Nat) (hij : i ≠ j) {T S : Thing} (hi : L[i]? = some T) (hj : L[j]? = some S) :
    ∃ Z Y, T.P w Z ∧ S.P w Y ∧ (∀ b, Z b → ¬ Y b) ∧ ∀ w' T' S' Z' Y', T'.P w' Z' → S'.P w' Y' → (∀ b, Z' b → ¬ Y' b) → Goes w w' (fun b => Z b ∨ Y b) (fun b => Z' b ∨ Y' b) → Owns w0 Z0 w' ((L.set i T').set j S') := by
  obtain ⟨Zf, h1, h2, g0⟩ := h
  have hil := (List.getElem?_eq_some_iff.1 hi).1
  have hjl := (List.getElem?_eq_some_iff.1 hj).1
  refine ⟨Zf i, Zf j, h1 i T hi, h1 j S hj, h2 i j hil hjl hij, fun w' T' S' Z' Y' hp hq hd g => ?_⟩
  have zi : zput (zput Zf i Z') j Y' i = Z' := by rw [zput_other _ _ hij, zput_same]
  have zj : zput (zput Zf i Z') j Y' j = Y' := zput_same _ _ _
  have zo : ∀ k, k ≠ i → k ≠ j → zput (zput Zf i Z') j Y' k = Zf k := fun k a c => by rw [zput_other _ _ c, zput_other _ _ a]
  refine Owns.step h1 h2 g0 (fun k => k = i ∨ k = j) (Zf' := zput (zput Zf i Z') j Y') (by rw [List.length_set, List.length_set]) ?_ ?_ ?_ ?_ ?_
  · have e1 : (fun b => ∃ k, (k = i ∨ k = j) ∧ k < L.length ∧ Zf k b) = fun b => Zf i b ∨ Zf j b := by
      funext b
      refine propext ⟨?_, ?_⟩
      · rintro ⟨k, rfl | rfl, _, x⟩
        · exact .inl x
        · exact .inr x
      · rintro (x | x)
        · exact ⟨i, .inl rfl, hil, x⟩
        · exact ⟨j, .inr rfl, hjl, x⟩
    have e2 : (fun b => ∃ k, (k = i ∨ k = j) ∧ k < L.length ∧ zput (zput Zf i Z') j Y' k b) = fun b => Z' b ∨ Y' b := by
      funext b
      refine propext ⟨?_, ?_⟩
      · rintro ⟨k, rfl | rfl, _, x⟩
        · rw [zi] at x; exact .inl x
        · rw [zj] at x; exact .inr x
      · rintro (x | x)
        · exact ⟨i, .inl rfl, hil, by rw [zi]; exact x⟩
        · exact ⟨j, .inr rfl, hjl, by rw [zj]; exact x⟩
    rw [e1, e2]; exact g
  · rintro k T'' (rfl | rfl) hk
    · rw [List.getElem?_set_ne (Ne.symm hij), List.getElem?_set_self hil] at hk
      obtain rfl := Option.some.inj hk
      rw [zi]; exact hp
    · rw [List.getElem?_set_self (by rw [List.length_set]; exact hjl)] at hk
      obtain rfl := Option.some.inj hk
      rw [zj]; exact hq
  · intro k hk
    rw [not_or] at hk
    refine ⟨by rw [List.getElem?_set_ne (Ne.symm hk.2), List.getElem?_set_ne (Ne.symm hk.1)], fun b hb => ?_⟩
    rw [zo k hk.1 hk.2] at hb; exact hb
  · intro k hk b hb
    rw [not_or] at hk
    rw [zo k hk.1 hk.2]; exact hb
  · rintro a c (rfl | rfl) (rfl | rfl) hne
    · exact absurd rfl hne
    · rw [zi, zj]; exact hd
    · rw [zi, zj]; exact fun b x y => hd b y x
    · exact absurd rfl hne
end
end Go.Proofs.YtdldoklkenhopaaGreatDoor.In
