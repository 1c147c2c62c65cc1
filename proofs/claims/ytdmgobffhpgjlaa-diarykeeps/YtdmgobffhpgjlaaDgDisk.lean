/-
  The log's file on a disk that doesn't fail, on one that may, and behind a loss of power. No program text.
-/
import Derived.Test.YtdmgobffhpgjlaaDgMath
namespace Go.Proofs.Ytdmgobffhpgjlaa.Sl.Dg
open Go.RowKit Go.PlainAid Go.Proofs.Ytdmgobffhpgjlaa.Cr
open Go.Proofs.Ytdmgobffhpgjlaa.Pk (Bs Fi Dk kl insF getF delF updF usedF isName onL onL_same onL_some onL_none)
set_option linter.unusedVariables false
set_option maxRecDepth 20000
set_option linter.unusedSimpArgs false

/-! ### a disk that doesn't fail any more -/
structure Calm (D : Dk) : Prop where
  off : D.off = false
  no : D.kd = 0 ∨ D.fm + D.fa < D.ops + 1
section
variable {D : Dk} {all new s : Bs} {sf sn : Nat}
theorem Calm.tick (h : Calm D) (k : Nat) (l : List Fi) : Calm { D with ops := D.ops + k, L := l } := by
  refine ⟨h.off, ?_⟩
  rcases h.no with c | c
  · exact .inl c
  · exact .inr (by simp only; omega)
theorem beg_calm (h : Calm D) : D.beg true = (0, { D with ops := D.ops + 1 }) := by
  unfold Dk.beg
  rw [if_neg (by simp), if_neg (by rw [h.off]; simp)]
  unfold Dk.fail
  rw [if_pos]
  rcases h.no with c | c
  · exact .inl c
  · exact .inr (.inr (by simp only; omega))
def oneD (all : Bs) (sf : Nat) : List Fi := [⟨dN, all, sf⟩]
def twoD (all : Bs) (sf : Nat) (new : Bs) (sn : Nat) : List Fi := [⟨dN, all, sf⟩, ⟨nN, new, sn⟩]
theorem get_d1 : getF dN (oneD all sf) = some ⟨dN, all, sf⟩ := rfl
theorem get_n1 : getF nN (oneD all sf) = none := rfl
theorem get_d2 : getF dN (twoD all sf new sn) = some ⟨dN, all, sf⟩ := rfl
theorem get_n2 : getF nN (twoD all sf new sn) = some ⟨nN, new, sn⟩ := rfl
theorem upd_d1 (a : Bs) (k : Nat) : updF dN ⟨dN, a, k⟩ (oneD all sf) = oneD a k := rfl
theorem upd_n2 (a : Bs) (k : Nat) : updF nN ⟨nN, a, k⟩ (twoD all sf new sn) = twoD all sf a k := rfl
theorem del_n2 : delF nN (twoD all sf new sn) = oneD all sf := rfl
theorem ins_n1 : insF ⟨nN, new, sn⟩ (oneD all sf) = twoD all sf new sn := rfl
theorem ren_2 : insF ⟨dN, new, sn⟩ (delF dN (delF nN (twoD all sf new sn))) = oneD new sn := rfl
theorem used_1 : usedF (oneD all sf) = all.length := rfl
theorem used_2 : usedF (twoD all sf new sn) = all.length + new.length := rfl

theorem disc_one (hL : D.L = oneD all sf) : disc D = (0, D) := by unfold disc Dk.size; rw [hL, get_n1, if_pos (by decide)]
theorem size_one (hL : D.L = oneD all sf) : D.size dN = (all.length : Int) := by unfold Dk.size; rw [hL, get_d1]
theorem make_one (hL : D.L = oneD all sf) : make D = (0, D) := by
  have := size_one hL
  unfold make
  rw [if_neg (by omega)]
theorem append_calm (h : Calm D) (hL : D.L = oneD all sf) (hr : ((all.length + s.length : Nat) : Int) ≤ D.room) : D.append dN s = (0, { D with ops := D.ops + 1, L := oneD (all ++ s) sf }) := by
  unfold Dk.append
  simp only [dN_name, beg_calm h, hL, get_d1]
  rw [if_neg (by simp), if_neg (by rw [used_1]; omega), upd_d1]
theorem sync_calm (h : Calm D) (hL : D.L = oneD all sf) : D.sync dN = (0, { D with ops := D.ops + 1, L := oneD all all.length }) := by
  unfold Dk.sync
  simp only [dN_name, beg_calm h, hL, get_d1]
  rw [if_neg (by simp), upd_d1]
theorem read_calm (h : Calm D) (hL : D.L = oneD all sf) : D.read dN 0 (all.length : Int) = (all, 0, { D with ops := D.ops + 1 }) := by
  unfold Dk.read
  have hg : (isName dN && decide ((0 : Int) ≤ 0) && decide (0 ≤ (all.length : Int))) = true := by simp [dN_name]
  simp only [hg, beg_calm h, hL, get_d1]
  rw [if_neg (by simp), if_neg (by omega)]
  simp
theorem load_one (h : Calm D) (hL : D.L = oneD all sf) : load D = (all, 0, { D with ops := D.ops + 2, L := oneD all all.length }) := by
  have h1 : disc D = (0, D) := by unfold disc Dk.size; rw [hL, get_n1, if_pos (by decide)]
  have hs : D.size dN = (all.length : Int) := by unfold Dk.size; rw [hL, get_d1]
  have h2 : make D = (0, D) := by unfold make; rw [if_neg (by rw [hs]; omega)]
  have h3 := read_calm h hL
  have h4 : ({ D with ops := D.ops + 1 } : Dk).sync dN = (0, { D with ops := D.ops + 2, L := oneD all all.length }) := by
    have := sync_calm (D := { D with ops := D.ops + 1 }) (h.tick 1 D.L) hL
    rw [this]
    simp only [Int.add_assoc]
    rfl
  unfold load
  simp only [h1, h2, hs, h3, h4]
  simp
theorem disc_two (h : Calm D) (hL : D.L = twoD all sf new sn) : disc D = (0, { D with ops := D.ops + 1, L := oneD all sf }) := by
  unfold disc Dk.size
  rw [hL, get_n2]
  simp only
  rw [if_neg (by omega)]
  unfold Dk.delete
  simp only [nN_name, beg_calm h, hL, get_n2]
  rw [if_neg (by simp), del_n2]
theorem load_two (h : Calm D) (hL : D.L = twoD all sf new sn) : load D = (all, 0, { D with ops := D.ops + 3, L := oneD all all.length }) := by
  have h1 := disc_two h hL
  have h0 : disc { D with ops := D.ops + 1, L := oneD all sf } = (0, { D with ops := D.ops + 1, L := oneD all sf }) := disc_one rfl
  have h2 := load_one (D := { D with ops := D.ops + 1, L := oneD all sf }) (h.tick 1 _) rfl
  unfold load at h2 ⊢
  rw [h0] at h2
  rw [h1]
  simp only [Int.add_assoc] at h2 ⊢
  exact h2
theorem load_new (h : Calm D) (hL : D.L = []) : load D = ([], 0, { D with ops := D.ops + 3, L := oneD [] 0 }) := by
  have h1 : disc D = (0, D) := by unfold disc Dk.size; rw [hL]; rfl
  have h2 : make D = (0, { D with ops := D.ops + 1, L := oneD [] 0 }) := by
    unfold make Dk.size
    rw [hL]
    simp only [show getF dN ([] : List Fi) = none from rfl]
    rw [if_pos (by decide)]
    unfold Dk.create
    simp only [dN_name, beg_calm h, hL]
    rfl
  have h0 : disc { D with ops := D.ops + 1, L := oneD [] 0 } = (0, { D with ops := D.ops + 1, L := oneD [] 0 }) := disc_one rfl
  have h9 : make { D with ops := D.ops + 1, L := oneD [] 0 } = (0, { D with ops := D.ops + 1, L := oneD [] 0 }) := make_one rfl
  have h3 := load_one (D := { D with ops := D.ops + 1, L := oneD [] 0 }) (h.tick 1 _) rfl
  unfold load at h3 ⊢
  rw [h0] at h3
  simp only [h9] at h3
  rw [h1]
  simp only [h2]
  simp only [Int.add_assoc] at h3 ⊢
  exact h3
theorem create_calm (h : Calm D) (hL : D.L = oneD all sf) : D.create nN = (0, { D with ops := D.ops + 1, L := twoD all sf [] 0 }) := by
  unfold Dk.create
  simp only [nN_name, beg_calm h, hL, get_n1]
  rw [if_neg (by simp), if_neg (by simp), if_neg (by simp [oneD]), ins_n1]
theorem fill_calm (h : Calm D) (hL : D.L = twoD all sf [] 0) (hr : ((all.length + s.length : Nat) : Int) ≤ D.room) : ∃ k : Nat, k ≤ 1 ∧ fill D s = (0, { D with ops := D.ops + k, L := twoD all sf s 0 }) := by
  unfold fill
  by_cases c : s = []
  · subst c
    refine ⟨0, by omega, ?_⟩
    rw [if_pos rfl, ← hL]
    simp
  · refine ⟨1, by omega, ?_⟩
    rw [if_neg c]
    unfold Dk.append
    simp only [nN_name, beg_calm h, hL, get_n2]
    rw [if_neg (by simp), if_neg (by rw [used_2]; simp; omega), upd_n2]
    simp
theorem sync_n (h : Calm D) (hL : D.L = twoD all sf new sn) : D.sync nN = (0, { D with ops := D.ops + 1, L := twoD all sf new new.length }) := by
  unfold Dk.sync
  simp only [nN_name, beg_calm h, hL, get_n2]
  rw [if_neg (by simp), upd_n2]
theorem rename_n (h : Calm D) (hL : D.L = twoD all sf new sn) : D.rename nN dN = (0, { D with ops := D.ops + 1, L := oneD new sn }) := by
  unfold Dk.rename
  simp only [nN_name, dN_name, Bool.and_self, beg_calm h, hL, get_n2]
  rw [if_neg (by simp), ren_2]
theorem repl_one (h : Calm D) (hL : D.L = oneD all sf) (hr : ((all.length + s.length : Nat) : Int) ≤ D.room) : ∃ k : Nat, k ≤ 4 ∧ repl D s = (0, { D with ops := D.ops + k, L := oneD s s.length }) := by
  have h2 := create_calm h hL
  have c2 : Calm { D with ops := D.ops + 1, L := twoD all sf [] 0 } := h.tick 1 _
  obtain ⟨k, hk, h3⟩ := fill_calm (s := s) c2 rfl hr
  have c3 : Calm { D with ops := D.ops + 1 + k, L := twoD all sf s 0 } := c2.tick k _
  have h4 := sync_n c3 rfl
  have c4 : Calm { D with ops := D.ops + 1 + k + 1, L := twoD all sf s s.length } := c3.tick 1 _
  have h5 := rename_n c4 rfl
  refine ⟨k + 3, by omega, ?_⟩
  unfold repl
  simp only [disc_one hL, h2, h3, h4, h5]
  simp
  omega

/-! ### one that may fail: nothing but what is told turns -/
theorem beg_e (D : Dk) : (D.beg true).1 = 0 ∨ (D.beg true).1 = 11 ∨ (D.beg true).1 = 12 := by
  unfold Dk.beg
  rw [if_neg (by simp)]
  split
  · exact .inr (.inr rfl)
  · unfold Dk.fail
    split
    · exact .inl rfl
    · split
      · exact .inr (.inl rfl)
      · exact .inr (.inr rfl)
theorem append_may (hL : D.L = oneD all sf) (hr : ((all.length + s.length : Nat) : Int) ≤ D.room) :
    ((D.append dN s).1 = 0 ∧ (D.append dN s).2.L = oneD (all ++ s) sf ∨ (D.append dN s).1 ≠ 0 ∧ (D.append dN s).1 ≠ 1 ∧ (D.append dN s).2.L = oneD all sf) ∧ (D.append dN s).2.room = D.room := by
  obtain ⟨b1, b2, b3, _⟩ := Pk.beg_L D true
  have be := beg_e D
  unfold Dk.append
  rw [dN_name]
  simp only
  by_cases c : (D.beg true).1 = 0
  · rw [if_neg (by simpa using c), b1, hL, get_d1]
    simp only
    rw [if_neg (by rw [b2, used_1]; omega)]
    exact ⟨.inl ⟨rfl, by rw [upd_d1]⟩, b2⟩
  · rw [if_pos c]
    exact ⟨.inr ⟨c, by omega, by rw [b1, hL]⟩, b2⟩
theorem sync_may (hL : D.L = oneD all sf) :
    ((D.sync dN).1 = 0 ∧ (D.sync dN).2.L = oneD all all.length ∨ (D.sync dN).1 ≠ 0 ∧ (D.sync dN).2.L = oneD all sf) ∧ (D.sync dN).2.room = D.room := by
  obtain ⟨b1, b2, b3, _⟩ := Pk.beg_L D true
  unfold Dk.sync
  rw [dN_name]
  simp only
  by_cases c : (D.beg true).1 = 0
  · rw [if_neg (by simpa using c), b1, hL, get_d1]
    exact ⟨.inl ⟨rfl, rfl⟩, b2⟩
  · rw [if_pos c]
    exact ⟨.inr ⟨c, by rw [b1, hL]⟩, b2⟩
/-- the file diary is as it was; beside it perhaps what is to become it -/
def Old (all : Bs) (sf : Nat) (l : List Fi) : Prop := l = oneD all sf ∨ ∃ new sn, sn ≤ new.length ∧ l = twoD all sf new sn
theorem create_may (hL : D.L = oneD all sf) : ((D.create nN).1 = 0 ∧ (D.create nN).2.L = twoD all sf [] 0 ∨ (D.create nN).1 ≠ 0 ∧ (D.create nN).1 ≠ 1 ∧ (D.create nN).2.L = oneD all sf) ∧ (D.create nN).2.room = D.room := by
  obtain ⟨b1, b2, b3, _⟩ := Pk.beg_L D true
  have be := beg_e D
  unfold Dk.create
  rw [nN_name]
  simp only
  by_cases c : (D.beg true).1 = 0
  · rw [if_neg (by simpa using c), b1, hL, get_n1, if_neg (by simp), if_neg (by simp [oneD]), ins_n1]
    exact ⟨.inl ⟨rfl, rfl⟩, b2⟩
  · rw [if_pos c]
    exact ⟨.inr ⟨c, by omega, by rw [b1, hL]⟩, b2⟩
theorem fill_may (hL : D.L = twoD all sf [] 0) (hr : ((all.length + s.length : Nat) : Int) ≤ D.room) : ((fill D s).1 = 0 ∧ (fill D s).2.L = twoD all sf s 0 ∨ (fill D s).1 ≠ 0 ∧ (fill D s).1 ≠ 1 ∧ (fill D s).2.L = twoD all sf [] 0) ∧ (fill D s).2.room = D.room := by
  obtain ⟨b1, b2, b3, _⟩ := Pk.beg_L D true
  have be := beg_e D
  unfold fill
  by_cases e : s = []
  · subst e
    rw [if_pos rfl]
    exact ⟨.inl ⟨rfl, hL⟩, rfl⟩
  rw [if_neg e]
  unfold Dk.append
  rw [nN_name]
  simp only
  by_cases c : (D.beg true).1 = 0
  · rw [if_neg (by simpa using c), b1, hL, get_n2]
    simp only
    rw [if_neg (by rw [b2, used_2]; simp; omega), upd_n2]
    exact ⟨.inl ⟨rfl, by simp⟩, b2⟩
  · rw [if_pos c]
    exact ⟨.inr ⟨c, by omega, by rw [b1, hL]⟩, b2⟩
theorem sync_n_may (hL : D.L = twoD all sf new sn) : ((D.sync nN).1 = 0 ∧ (D.sync nN).2.L = twoD all sf new new.length ∨ (D.sync nN).1 ≠ 0 ∧ (D.sync nN).1 ≠ 1 ∧ (D.sync nN).2.L = twoD all sf new sn) ∧ (D.sync nN).2.room = D.room := by
  obtain ⟨b1, b2, b3, _⟩ := Pk.beg_L D true
  have be := beg_e D
  unfold Dk.sync
  rw [nN_name]
  simp only
  by_cases c : (D.beg true).1 = 0
  · rw [if_neg (by simpa using c), b1, hL, get_n2]
    exact ⟨.inl ⟨rfl, rfl⟩, b2⟩
  · rw [if_pos c]
    exact ⟨.inr ⟨c, by omega, by rw [b1, hL]⟩, b2⟩
theorem rename_may (hL : D.L = twoD all sf new sn) : ((D.rename nN dN).1 = 0 ∧ (D.rename nN dN).2.L = oneD new sn ∨ (D.rename nN dN).1 ≠ 0 ∧ (D.rename nN dN).1 ≠ 1 ∧ (D.rename nN dN).2.L = twoD all sf new sn) ∧ (D.rename nN dN).2.room = D.room := by
  obtain ⟨b1, b2, b3, _⟩ := Pk.beg_L D true
  have be := beg_e D
  unfold Dk.rename
  rw [nN_name, dN_name, Bool.and_self]
  simp only
  by_cases c : (D.beg true).1 = 0
  · rw [if_neg (by simpa using c), b1, hL, get_n2]
    exact ⟨.inl ⟨rfl, by simp only; rw [ren_2]⟩, b2⟩
  · rw [if_pos c]
    exact ⟨.inr ⟨c, by omega, by rw [b1, hL]⟩, b2⟩
theorem repl_may (hL : D.L = oneD all sf) (hr : ((all.length + s.length : Nat) : Int) ≤ D.room) :
    (repl D s).1 = 0 ∧ (repl D s).2.L = oneD s s.length ∨ (repl D s).1 ≠ 0 ∧ (repl D s).1 ≠ 1 ∧ Old all sf (repl D s).2.L := by
  have hd := disc_one hL
  unfold repl
  rw [hd]
  simp only
  rw [if_neg (by simp)]
  obtain ⟨h2, r2⟩ := create_may hL
  rcases h2 with ⟨e2, l2⟩ | ⟨e2, f2, l2⟩
  rotate_left
  · rw [if_pos e2]
    exact .inr ⟨e2, f2, .inl l2⟩
  rw [if_neg (by simpa using e2)]
  obtain ⟨h3, r3⟩ := fill_may (s := s) l2 (by rw [r2]; exact hr)
  rcases h3 with ⟨e3, l3⟩ | ⟨e3, f3, l3⟩
  rotate_left
  · rw [if_pos e3]
    exact .inr ⟨e3, f3, .inr ⟨_, _, Nat.zero_le _, l3⟩⟩
  rw [if_neg (by simpa using e3)]
  obtain ⟨h4, r4⟩ := sync_n_may l3
  rcases h4 with ⟨e4, l4⟩ | ⟨e4, f4, l4⟩
  rotate_left
  · rw [if_pos e4]
    exact .inr ⟨e4, f4, .inr ⟨_, _, Nat.zero_le _, l4⟩⟩
  rw [if_neg (by simpa using e4)]
  obtain ⟨h5, r5⟩ := rename_may l4
  rcases h5 with ⟨e5, l5⟩ | ⟨e5, f5, l5⟩
  · exact .inl ⟨e5, l5⟩
  · exact .inr ⟨e5, f5, .inr ⟨_, _, Nat.le_refl _, l5⟩⟩

/-! ### behind a loss of power -/
theorem on_eq (D : Dk) (ks : List Int) : D.offd.on ks = { D.offd with off := false, L := onL ks D.L } := by
  unfold Dk.on
  rw [if_pos (show D.offd.off = true from rfl)]
  rfl
theorem on_calm (D : Dk) (ks : List Int) : Calm (D.offd.on ks) := by
  rw [on_eq]
  exact ⟨rfl, .inl rfl⟩
theorem on_room (D : Dk) (ks : List Int) : (D.offd.on ks).room = D.room ∧ (D.offd.on ks).ops = D.ops := by
  rw [on_eq]
  exact ⟨rfl, rfl⟩
theorem onL_safe (ks : List Int) (a : Bs) : ∀ r, onL ks (⟨dN, a, a.length⟩ :: r) = ⟨dN, a, a.length⟩ :: onL ks r := fun r => onL_same (f := ⟨dN, a, a.length⟩) rfl ks r
theorem onL_any (ks : List Int) (f : Fi) (r : List Fi) (h : f.sf ≤ f.bs.length) : ∃ n ks', f.sf ≤ n ∧ n ≤ f.bs.length ∧ onL ks (f :: r) = ⟨f.nm, f.bs.take n, n⟩ :: onL ks' r := by
  by_cases c : f.sf = f.bs.length
  · refine ⟨f.sf, ks, Nat.le_refl _, h, ?_⟩
    rw [onL_same c, List.take_of_length_le (by omega)]
  · rcases ks with _ | ⟨k, ks⟩
    · exact ⟨f.sf, [], Nat.le_refl _, h, by rw [onL_none c]⟩
    · have hm := Nat.mod_lt (max k 0).toNat (show 0 < f.bs.length - f.sf + 1 by omega)
      exact ⟨f.sf + (max k 0).toNat % (f.bs.length - f.sf + 1), ks, by omega, by omega, by rw [onL_some c]⟩
/-- one file: a beginning of it, with all that was safe -/
theorem on_one (hL : D.L = oneD all sf) (hs : sf ≤ all.length) (ks : List Int) : ∃ n, sf ≤ n ∧ n ≤ all.length ∧ (D.offd.on ks).L = oneD (all.take n) n := by
  rw [on_eq, hL]
  obtain ⟨n, ks', h1, h2, h3⟩ := onL_any ks ⟨dN, all, sf⟩ [] hs
  exact ⟨n, h1, h2, by show onL ks [⟨dN, all, sf⟩] = _; rw [h3]; rfl⟩
theorem on_old {l : List Fi} (hL : D.L = l) (h : Old all all.length l) (ks : List Int) : Old all all.length (D.offd.on ks).L := by
  rw [on_eq, hL]
  show Old _ _ (onL ks l)
  rcases h with rfl | ⟨new, sn, hn, rfl⟩
  · unfold oneD
    rw [onL_safe]
    exact .inl (by rw [onL]; rfl)
  · unfold twoD
    rw [onL_safe]
    obtain ⟨n, ks', h1, h2, h3⟩ := onL_any ks ⟨nN, new, sn⟩ [] hn
    rw [h3]
    have h4 : n ≤ new.length := h2
    exact .inr ⟨new.take n, n, by rw [List.length_take]; omega, by rw [onL]; rfl⟩
theorem load_old (h : Calm D) (hO : Old all sf D.L) : ∃ k : Nat, k ≤ 3 ∧ load D = (all, 0, { D with ops := D.ops + k, L := oneD all all.length }) := by
  rcases hO with c | ⟨new, sn, _, c⟩
  · exact ⟨2, by omega, load_one h c⟩
  · exact ⟨3, by omega, load_two h c⟩
end

/-! ### what is read of a beginning -/
theorem reads_cut : ∀ {xs : List Sp} (h : ∀ x ∈ xs, Can x) (n : Nat), n ≤ (recs xs).length → ∃ j, j ≤ xs.length ∧ Reads ((recs xs).take n) (xs.take j) (recs (xs.take j)).length ∧ (recs (xs.take j)).length ≤ n ∧ ∀ i, i ≤ xs.length → (recs (xs.take i)).length ≤ n → i ≤ j
  | [], h, n, hn => by
    refine ⟨0, Nat.le_refl _, ?_, Nat.zero_le _, fun i hi _ => hi⟩
    simp [recs_nil]
    exact reads_nil
  | x :: xs, h, n, hn => by
    have hx := h x (by simp)
    rw [recs_cons]
    by_cases c : n < (recL (bodyL x)).length
    · refine ⟨0, Nat.zero_le _, ?_, Nat.zero_le _, fun i hi hl => ?_⟩
      · rw [List.take_append_of_le_length (by omega)]
        exact .stop (by rw [rd_cut hx c]; decide)
      · rcases i with _ | i
        · exact Nat.le_refl _
        · rw [List.take_succ_cons, recs_cons, List.length_append] at hl
          omega
    · rw [recs_cons, List.length_append] at hn
      obtain ⟨j, hj, hr, hl, hi⟩ := reads_cut (xs := xs) (fun y hy => h y (by simp [hy])) (n - (recL (bodyL x)).length) (by omega)
      refine ⟨j + 1, by simp; omega, ?_, ?_, fun i hi1 hi2 => ?_⟩
      · rw [List.take_succ_cons, recs_cons, List.length_append, List.take_append, List.take_of_length_le (by omega)]
        have e := rd_rec hx ((recs xs).take (n - (recL (bodyL x)).length))
        have := Reads.more (l := recL (bodyL x) ++ (recs xs).take (n - (recL (bodyL x)).length)) (xs := xs.take j) (m := (recs (xs.take j)).length) (by rw [e]) (by rw [e]; simp only [Int.toNat_natCast]; rw [List.drop_left' rfl]; exact hr)
        rw [e] at this
        simpa using this
      · rw [List.take_succ_cons, recs_cons, List.length_append]
        omega
      · rcases i with _ | i
        · omega
        · rw [List.take_succ_cons, recs_cons, List.length_append] at hi2
          have := hi i (by simpa using hi1) (by omega)
          omega
theorem recs_mono (xs : List Sp) {i j : Nat} (h : i ≤ j) : (recs (xs.take i)).length ≤ (recs (xs.take j)).length := by
  have e : xs.take j = xs.take i ++ (xs.take j).drop i := by
    conv => lhs; rw [← List.take_append_drop i (xs.take j), List.take_take, Nat.min_eq_left h]
  rw [e, recs_append, List.length_append]
  omega
/-- a whole beginning -/
theorem recs_cut {xs : List Sp} {j n : Nat} (h : (recs (xs.take j)).length = n) : (recs xs).take n = recs (xs.take j) := by
  have e : recs xs = recs (xs.take j) ++ recs (xs.drop j) := by rw [← recs_append, List.take_append_drop]
  rw [e, List.take_left' h]
end Go.Proofs.Ytdmgobffhpgjlaa.Sl.Dg
