/-
  The document's Place told of a disk beside blocks of the law's own; what is there ahead of Open and Rewrite.
-/
import Derived.Test.YtdmgobffhpgjlaaGreatDxHas
namespace Go.Proofs.YtdmgobffhpgjlaaGreat.Sl.Dg
open Go.RowKit Go.PlainAid Go.Proofs.YtdmgobffhpgjlaaGreat.Cr
open Go.Proofs.YtdmgobffhpgjlaaGreat.Pk (Bs Fi Dk kl usedF delF insF updF getF PlaceIs isName)
set_option linter.unusedVariables false
set_option maxRecDepth 20000
set_option linter.unusedSimpArgs false

section
variable {D : Dk} {f : Fi}
theorem disc_none (h : getF nN D.L = none) : disc D = (0, D) := by unfold disc; rw [if_pos (by rw [size_none h]; decide)]
theorem disc_some (h : getF nN D.L = some f) : disc D = D.delete nN := by unfold disc; rw [if_neg (by rw [size_some h]; omega)]
theorem make_none (h : getF dN D.L = none) : make D = D.create dN := by unfold make; rw [if_pos (by rw [size_none h]; decide)]
theorem make_some (h : getF dN D.L = some f) : make D = (0, D) := by unfold make; rw [if_neg (by rw [size_some h]; omega)]
theorem load_used (D : Dk) : (load D).1.length ≤ usedF D.L := by
  have h1 := disc_used D
  have h2 := make_used (disc D).2
  have h3 := read_used (make (disc D).2).2 dN 0 ((make (disc D).2).2.size dN)
  unfold load
  split
  · simp
  · split
    · simp
    · split
      · simp
      · split
        · simp
        · simp only; omega
theorem load_one_of {e1 e2 e3 e4 : Int} {D1 D2 D3 D4 : Dk} {t : Bs} (hD : disc D = (e1, D1)) (hM : make D1 = (e2, D2)) (hR : D2.read dN 0 (D2.size dN) = (t, e3, D3)) (hu : usedF D.L ≤ 1000000) : t.length ≤ 1000000 := by
  have h1 := disc_used D
  have h2 := make_used D1
  have h3 := read_used D2 dN 0 (D2.size dN)
  rw [hD] at h1
  rw [hM] at h2
  rw [hR] at h3
  simp only at h1 h2 h3
  omega
end
section
variable {w0 w w' : World} {u r : Nat} {E : Dk} {X : List (Nat × Obj)}
theorem place_no (h : HasR w0 w u E X) (s : ByteArray) (hg : getF (kl s) E.L = none) : Calls Tryz.prog 39 #[.pointer (some ⟨u, 0, none⟩), .string s] w fun e w' => e = .returned (.int .i64 (-1)) ∧ w' = w :=
  (rh_place h s).mono fun e w' ⟨i, he, hp, hw⟩ => by
    rcases hp with ⟨hi, _⟩ | ⟨n, f, _, _, _, hf⟩
    · exact ⟨by rw [he, hi], hw.symm⟩
    · rw [hg] at hf; cases hf
theorem place_is (h : HasR w0 w u E X) (s : ByteArray) {n : Nat} {f : Fi} (hn : E.L[n]? = some f) (hg : getF (kl s) E.L = some f) : Calls Tryz.prog 39 #[.pointer (some ⟨u, 0, none⟩), .string s] w fun e w' => e = .returned (.int .i64 (n : Int)) ∧ w' = w :=
  (rh_place h s).mono fun e w' ⟨i, he, hp, hw⟩ => by
    rcases hp with ⟨_, hg'⟩ | ⟨m, f', hi, hm, _, hf⟩
    · rw [hg] at hg'; cases hg'
    · rw [hg] at hf
      injection hf with hf
      subst hf
      have nd : E.L.Pairwise fun x y => x.nm ≠ y.nm := h.ok.up.ne
      obtain ⟨l1, q1⟩ := List.getElem?_eq_some_iff.1 hn
      obtain ⟨l2, q2⟩ := List.getElem?_eq_some_iff.1 hm
      have nm := List.pairwise_iff_getElem.1 nd
      have : m = n := by
        rcases Nat.lt_trichotomy m n with c | c | c
        · exact absurd (by rw [q1, q2]) (nm m n l2 l1 c)
        · exact c
        · exact absurd (by rw [q1, q2]) (nm n m l1 l2 c)
      subst this
      exact ⟨by rw [he, hi], hw.symm⟩
theorem place_at {k : Bs} {l : List Fi} {f : Fi} (h : getF k l = some f) : ∃ n : Nat, l[n]? = some f := List.getElem?_of_mem (Pk.get_some h).1
end
end Go.Proofs.YtdmgobffhpgjlaaGreat.Sl.Dg
