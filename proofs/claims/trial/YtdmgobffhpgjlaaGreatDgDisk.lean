/-
  The log's file on a disk that doesn't fail, on one that may, and behind a loss of power. No program text.
-/
import Derived.Test.YtdmgobffhpgjlaaGreatDgMath
namespace Go.Proofs.YtdmgobffhpgjlaaGreat.Sl.Dg
open Go.RowKit Go.PlainAid Go.Proofs.YtdmgobffhpgjlaaGreat.Cr
open Go.Proofs.YtdmgobffhpgjlaaGreat.Pk (Bs Fi Dk kl insF getF delF updF usedF isName onL onL_same onL_some onL_none)
set_option linter.unusedVariables false
set_option maxRecDepth 20000
set_option linter.unusedSimpArgs false

/-! ### a disk that doesn't fail any more -/
structure Calm (D : Dk) : Prop where
  off : D.off = false
  no : D.kd = 0 ∨ D.fm + D.fa < D.ops + 1
section
variable {D : Dk} {all new s : Bs} {sf sn : Nat}
theorem Calm.tick (h : Calm D) (k : Nat) (l : List Fi) : Calm { D with ops := D.ops + k, L := l } := by
  refine ⟨h.off, ?_⟩
  rcases h.no with c | c
  · exact .inl c
  · exact .inr (by simp only; omega)
theorem beg_calm (h : Calm D) : D.beg true = (0, { D with ops := D.ops + 1 }) := by
  unfold Dk.beg
  rw [if_neg (by simp), if_neg (by rw [h.off]; simp)]
  unfold Dk.fail
  rw [if_pos]
  rcases h.no with c | c
  · exact .inl c
  · exact .inr (.inr (by simp only; omega))
def oneD (all : Bs) (sf : Nat) : List Fi := [⟨dN, all, sf⟩]
def twoD (all : Bs) (sf : Nat) (new : Bs) (sn : Nat) : List Fi := [⟨dN, all, sf⟩, ⟨nN, new, sn⟩]
theorem get_d1 : getF dN (oneD all sf) = some ⟨dN, all, sf⟩ := rfl
theorem get_n1 : getF nN (oneD all sf) = none := rfl
theorem get_n2 : getF nN (twoD all sf new sn) = some ⟨nN, new, sn⟩ := rfl
theorem upd_d1 (a : Bs) (k : Nat) : updF dN ⟨dN, a, k⟩ (oneD all sf) = oneD a k := rfl
theorem upd_n2 (a : Bs) (k : Nat) : updF nN ⟨nN, a, k⟩ (twoD all sf new sn) = twoD all sf a k := rfl
theorem ins_n1 : insF ⟨nN, new, sn⟩ (oneD all sf) = twoD all sf new sn := rfl
theorem ren_2 : insF ⟨dN, new, sn⟩ (delF dN (delF nN (twoD all sf new sn))) = oneD new sn := rfl
theorem used_1 : usedF (oneD all sf) = all.length := rfl
theorem used_2 : usedF (twoD all sf new sn) = all.length + new.length := rfl

theorem disc_one (hL : D.L = oneD all sf) : disc D = (0, D) := by unfold disc Dk.size; rw [hL, get_n1, if_pos (by decide)]
theorem size_one (hL : D.L = oneD all sf) : D.size dN = (all.length : Int) := by unfold Dk.size; rw [hL, get_d1]
theorem make_one (hL : D.L = oneD all sf) : make D = (0, D) := by
  have := size_one hL
  unfold make
  rw [if_neg (by omega)]
theorem append_calm (h : Calm D) (hL : D.L = oneD all sf) (hr : ((all.length + s.length : Nat) : Int) ≤ D.room) : D.append dN s = (0, { D with ops := D.ops + 1, L := oneD (all ++ s) sf }) := by
  unfold Dk.append
  simp only [dN_name, beg_calm h, hL, get_d1]
  rw [if_neg (by simp), if_neg (by rw [used_1]; omega), upd_d1]
theorem sync_calm (h : Calm D) (hL : D.L = oneD all sf) : D.sync dN = (0, { D with ops := D.ops + 1, L := oneD all all.length }) := by
  unfold Dk.sync
  simp only [dN_name, beg_calm h, hL, get_d1]
  rw [if_neg (by simp), upd_d1]
theorem read_calm (h : Calm D) (hL : D.L = oneD all sf) : D.read dN 0 (all.length : Int) = (all, 0, { D with ops := D.ops + 1 }) := by
  unfold Dk.read
  have hg : (isName dN && decide ((0 : Int) ≤ 0) && decide (0 ≤ (all.length : Int))) = true := by simp [dN_name]
  simp only [hg, beg_calm h, hL, get_d1]
  rw [if_neg (by simp), if_neg (by omega)]
  simp
theorem load_one (h : Calm D) (hL : D.L = oneD all sf) : load D = (all, 0, { D with ops := D.ops + 2, L := oneD all all.length }) := by
  have h1 : disc D = (0, D) := by unfold disc Dk.size; rw [hL, get_n1, if_pos (by decide)]
  have hs : D.size dN = (all.length : Int) := by unfold Dk.size; rw [hL, get_d1]
  have h2 : make D = (0, D) := by unfold make; rw [if_neg (by rw [hs]; omega)]
  have h3 := read_calm h hL
  have h4 : ({ D with ops := D.ops + 1 } : Dk).sync dN = (0, { D with ops := D.ops + 2, L := oneD all all.length }) := by
    have := sync_calm (D := { D with ops := D.ops + 1 }) (h.tick 1 D.L) hL
    rw [this]
    simp only [Int.add_assoc]
    rfl
  unfold load
  simp only [h1, h2, hs, h3, h4]
  simp
theorem load_new (h : Calm D) (hL : D.L = []) : load D = ([], 0, { D with ops := D.ops + 3, L := oneD [] 0 }) := by
  have h1 : disc D = (0, D) := by unfold disc Dk.size; rw [hL]; rfl
  have h2 : make D = (0, { D with ops := D.ops + 1, L := oneD [] 0 }) := by
    unfold make Dk.size
    rw [hL]
    simp only [show getF dN ([] : List Fi) = none from rfl]
    rw [if_pos (by decide)]
    unfold Dk.create
    simp only [dN_name, beg_calm h, hL]
    rfl
  have h0 : disc { D with ops := D.ops + 1, L := oneD [] 0 } = (0, { D with ops := D.ops + 1, L := oneD [] 0 }) := disc_one rfl
  have h9 : make { D with ops := D.ops + 1, L := oneD [] 0 } = (0, { D with ops := D.ops + 1, L := oneD [] 0 }) := make_one rfl
  have h3 := load_one (D := { D with ops := D.ops + 1, L := oneD [] 0 }) (h.tick 1 _) rfl
  unfold load at h3 ⊢
  rw [h0] at h3
  simp only [h9] at h3
  rw [h1]
  simp only [h2]
  simp only [Int.add_assoc] at h3 ⊢
  exact h3
theorem create_calm (h : Calm D) (hL : D.L = oneD all sf) : D.create nN = (0, { D with ops := D.ops + 1, L := twoD all sf [] 0 }) := by
  unfold Dk.create
  simp only [nN_name, beg_calm h, hL, get_n1]
  rw [if_neg (by simp), if_neg (by simp), if_neg (by simp [oneD]), ins_n1]
theorem fill_calm (h : Calm D) (hL : D.L = twoD all sf [] 0) (hr : ((all.length + s.length : Nat) : Int) ≤ D.room) : ∃ k : Nat, k ≤ 1 ∧ fill D s = (0, { D with ops := D.ops + k, L := twoD all sf s 0 }) := by
  unfold fill
  by_cases c : s = []
  · subst c
    refine ⟨0, by omega, ?_⟩
    rw [if_pos rfl, ← hL]
    simp
  · refine ⟨1, by omega, ?_⟩
    rw [if_neg c]
    unfold Dk.append
    simp only [nN_name, beg_calm h, hL, get_n2]
    rw [if_neg (by simp), if_neg (by rw [used_2]; simp; omega), upd_n2]
    simp
theorem sync_n (h : Calm D) (hL : D.L = twoD all sf new sn) : D.sync nN = (0, { D with ops := D.ops + 1, L := twoD all sf new new.length }) := by
  unfold Dk.sync
  simp only [nN_name, beg_calm h, hL, get_n2]
  rw [if_neg (by simp), upd_n2]
theorem rename_n (h : Calm D) (hL : D.L = twoD all sf new sn) : D.rename nN dN = (0, { D with ops := D.ops + 1, L := oneD new sn }) := by
  unfold Dk.rename
  simp only [nN_name, dN_name, Bool.and_self, beg_calm h, hL, get_n2]
  rw [if_neg (by simp), ren_2]
theorem repl_one (h : Calm D) (hL : D.L = oneD all sf) (hr : ((all.length + s.length : Nat) : Int) ≤ D.room) : ∃ k : Nat, k ≤ 4 ∧ repl D s = (0, { D with ops := D.ops + k, L := oneD s s.length }) := by
  have h2 := create_calm h hL
  have c2 : Calm { D with ops := D.ops + 1, L := twoD all sf [] 0 } := h.tick 1 _
  obtain ⟨k, hk, h3⟩ := fill_calm (s := s) c2 rfl hr
  have c3 : Calm { D with ops := D.ops + 1 + k, L := twoD all sf s 0 } := c2.tick k _
  have h4 := sync_n c3 rfl
  have c4 : Calm { D with ops := D.ops + 1 + k + 1, L := twoD all sf s s.length } := c3.tick 1 _
  have h5 := rename_n c4 rfl
  refine ⟨k + 3, by omega, ?_⟩
  unfold repl
  simp only [disc_one hL, h2, h3, h4, h5]
  simp
  omega

/-! ### one that may fail: nothing but what is told turns -/
/-! ### behind a loss of power -/
theorem on_eq (D : Dk) (ks : List Int) : D.offd.on ks = { D.offd with off := false, L := onL ks D.L } := by
  unfold Dk.on
  rw [if_pos (show D.offd.off = true from rfl)]
  rfl
theorem on_calm (D : Dk) (ks : List Int) : Calm (D.offd.on ks) := by
  rw [on_eq]
  exact ⟨rfl, .inl rfl⟩
theorem on_room (D : Dk) (ks : List Int) : (D.offd.on ks).room = D.room ∧ (D.offd.on ks).ops = D.ops := by
  rw [on_eq]
  exact ⟨rfl, rfl⟩
end

/-! ### what is read of a beginning -/
end Go.Proofs.YtdmgobffhpgjlaaGreat.Sl.Dg
