/-
  The log over a disk as the document tells it: what each call makes of the disk and of the log. No program text.
  The log's file on a disk that doesn't fail, on one that may, and behind a loss of power. No program text.
  The log in memory beside its disk; slips that lie beside them stay.
-/
import Derived.Test.YtdmgobffhpgjlaaGreatPkOnS
import Derived.Test.YtdmgobffhpgjlaaGreatSlAll
section
namespace Go.Proofs.YtdmgobffhpgjlaaGreat.Sl.Dg
open Go.RowKit Go.PlainAid Go.Proofs.YtdmgobffhpgjlaaGreat.Cr
open Go.Proofs.YtdmgobffhpgjlaaGreat.Pk (Bs Fi Dk kl insF getF delF updF usedF isName onL)
set_option linter.unusedVariables false
set_option maxRecDepth 20000
set_option linter.unusedSimpArgs false

/-! ### bytes -/
def u8 (l : List Nat) : Bs := l.map UInt8.ofNat
def nb (l : Bs) : List Nat := l.map UInt8.toNat
theorem u8_len (l : List Nat) : (u8 l).length = l.length := by simp [u8]
theorem nb_len (l : Bs) : (nb l).length = l.length := by simp [nb]
theorem kl_strOf (l : List Nat) : kl (Cr.strOf l) = u8 l := by simp [kl, Cr.strOf, u8]
theorem u8_append (a b : List Nat) : u8 (a ++ b) = u8 a ++ u8 b := by simp [u8]
theorem nb_take (a : Bs) (n : Nat) : nb (a.take n) = (nb a).take n := by simp [nb, List.map_take]
theorem nb_u8 {l : List Nat} (h : ∀ x ∈ l, x < 256) : nb (u8 l) = l := by
  unfold nb u8
  rw [List.map_map]
  conv => rhs; rw [← List.map_id l]
  refine List.map_congr_left fun x hx => ?_
  have := h x hx
  simp [Nat.mod_eq_of_lt this]
theorem bl_mk (b : Bs) : bl ⟨b.toArray⟩ = nb b := by simp [bl, nb]
theorem mk_size (b : Bs) : (⟨b.toArray⟩ : ByteArray).size = b.length := by simp [ByteArray.size]
/-! ### the files -/
def dN : Bs := [100, 105, 97, 114, 121]
def nN : Bs := [100, 105, 97, 114, 121, 46, 110, 101, 119]
def dS : ByteArray := ⟨#[100, 105, 97, 114, 121]⟩
def nS : ByteArray := ⟨#[100, 105, 97, 114, 121, 46, 110, 101, 119]⟩
theorem kl_dS : kl dS = dN := rfl
theorem kl_nS : kl nS = nN := rfl
theorem dN_name : isName dN = true := rfl
theorem nN_name : isName nN = true := rfl
/-- what a Rewrite that failed has left is taken away -/
def disc (D : Dk) : Int × Dk := if D.size nN < 0 then (0, D) else D.delete nN
def make (D : Dk) : Int × Dk := if D.size dN < 0 then D.create dN else (0, D)
/-- all bytes of the file, safe -/
def load (D : Dk) : Bs × Int × Dk :=
  if (disc D).1 ≠ 0 then ([], disc D) else
  if (make (disc D).2).1 ≠ 0 then ([], make (disc D).2) else
  if ((make (disc D).2).2.read dN 0 ((make (disc D).2).2.size dN)).2.1 ≠ 0 then ([], ((make (disc D).2).2.read dN 0 ((make (disc D).2).2.size dN)).2) else
  if (((make (disc D).2).2.read dN 0 ((make (disc D).2).2.size dN)).2.2.sync dN).1 ≠ 0 then ([], ((make (disc D).2).2.read dN 0 ((make (disc D).2).2.size dN)).2.2.sync dN) else
  (((make (disc D).2).2.read dN 0 ((make (disc D).2).2.size dN)).1, 0, (((make (disc D).2).2.read dN 0 ((make (disc D).2).2.size dN)).2.2.sync dN).2)
def fill (D : Dk) (s : Bs) : Int × Dk := if s = [] then (0, D) else D.append nN s
/-- the bytes are put in the file's place -/
def repl (D : Dk) (s : Bs) : Int × Dk :=
  if (disc D).1 ≠ 0 then disc D else
  if ((disc D).2.create nN).1 ≠ 0 then (disc D).2.create nN else
  if (fill ((disc D).2.create nN).2 s).1 ≠ 0 then fill ((disc D).2.create nN).2 s else
  if ((fill ((disc D).2.create nN).2 s).2.sync nN).1 ≠ 0 then (fill ((disc D).2.create nN).2 s).2.sync nN else
  ((fill ((disc D).2.create nN).2 s).2.sync nN).2.rename nN dN

/-! ### how many operations they take -/
theorem append_ops (D : Dk) (n s : Bs) : D.ops ≤ (D.append n s).2.ops ∧ (D.append n s).2.ops ≤ D.ops + 1 := by
  obtain ⟨h1, h2, h3, h4⟩ := Pk.beg_L D (isName n)
  unfold Dk.append
  simp only
  split
  · exact ⟨h4, h3⟩
  · split
    · exact ⟨h4, h3⟩
    · split <;> exact ⟨h4, h3⟩
theorem create_ops (D : Dk) (n : Bs) : D.ops ≤ (D.create n).2.ops ∧ (D.create n).2.ops ≤ D.ops + 1 := by
  obtain ⟨h1, h2, h3, h4⟩ := Pk.beg_L D (isName n)
  unfold Dk.create
  simp only
  split
  · exact ⟨h4, h3⟩
  · split
    · exact ⟨h4, h3⟩
    · split <;> exact ⟨h4, h3⟩
theorem sync_ops (D : Dk) (n : Bs) : D.ops ≤ (D.sync n).2.ops ∧ (D.sync n).2.ops ≤ D.ops + 1 := by
  obtain ⟨h1, h2, h3, h4⟩ := Pk.beg_L D (isName n)
  unfold Dk.sync
  simp only
  split
  · exact ⟨h4, h3⟩
  · split <;> exact ⟨h4, h3⟩
theorem delete_ops (D : Dk) (n : Bs) : D.ops ≤ (D.delete n).2.ops ∧ (D.delete n).2.ops ≤ D.ops + 1 := by
  obtain ⟨h1, h2, h3, h4⟩ := Pk.beg_L D (isName n)
  unfold Dk.delete
  simp only
  split
  · exact ⟨h4, h3⟩
  · split <;> exact ⟨h4, h3⟩
theorem rename_ops (D : Dk) (n t : Bs) : D.ops ≤ (D.rename n t).2.ops ∧ (D.rename n t).2.ops ≤ D.ops + 1 := by
  obtain ⟨h1, h2, h3, h4⟩ := Pk.beg_L D (isName n && isName t)
  unfold Dk.rename
  simp only
  split
  · exact ⟨h4, h3⟩
  · split <;> exact ⟨h4, h3⟩
theorem read_ops (D : Dk) (n : Bs) (a b : Int) : D.ops ≤ (D.read n a b).2.2.ops ∧ (D.read n a b).2.2.ops ≤ D.ops + 1 := by
  obtain ⟨h1, h2, h3, h4⟩ := Pk.beg_L D (isName n && decide (0 ≤ a) && decide (0 ≤ b))
  unfold Dk.read
  simp only
  split
  · exact ⟨h4, h3⟩
  · split
    · exact ⟨h4, h3⟩
    · split <;> exact ⟨h4, h3⟩
theorem disc_ops (D : Dk) : D.ops ≤ (disc D).2.ops ∧ (disc D).2.ops ≤ D.ops + 1 := by
  unfold disc
  split
  · exact ⟨Int.le_refl _, by simp; omega⟩
  · exact delete_ops D nN
theorem make_ops (D : Dk) : D.ops ≤ (make D).2.ops ∧ (make D).2.ops ≤ D.ops + 1 := by
  unfold make
  split
  · exact create_ops D dN
  · exact ⟨Int.le_refl _, by simp; omega⟩
theorem fill_ops (D : Dk) (s : Bs) : D.ops ≤ (fill D s).2.ops ∧ (fill D s).2.ops ≤ D.ops + 1 := by
  unfold fill
  split
  · exact ⟨Int.le_refl _, by simp; omega⟩
  · exact append_ops D nN s
theorem load_ops (D : Dk) : D.ops ≤ (load D).2.2.ops ∧ (load D).2.2.ops ≤ D.ops + 4 := by
  have h1 := disc_ops D
  have h2 := make_ops (disc D).2
  have h3 := read_ops (make (disc D).2).2 dN 0 ((make (disc D).2).2.size dN)
  have h4 := sync_ops ((make (disc D).2).2.read dN 0 ((make (disc D).2).2.size dN)).2.2 dN
  unfold load
  split
  · simp only; omega
  · split
    · simp only; omega
    · split
      · simp only; omega
      · split <;> (simp only; omega)
theorem repl_ops (D : Dk) (s : Bs) : D.ops ≤ (repl D s).2.ops ∧ (repl D s).2.ops ≤ D.ops + 5 := by
  have h1 := disc_ops D
  have h2 := create_ops (disc D).2 nN
  have h3 := fill_ops ((disc D).2.create nN).2 s
  have h4 := sync_ops (fill ((disc D).2.create nN).2 s).2 nN
  have h5 := rename_ops ((fill ((disc D).2.create nN).2 s).2.sync nN).2 nN dN
  unfold repl
  split
  · omega
  · split
    · omega
    · split
      · omega
      · split <;> omega

/-! ### the log -/
structure Lg where
  n : Int
  b : Int
  s : Int
  k : Bool
structure Lg.Fits (L : Lg) : Prop where
  n : 0 ≤ L.n ∧ L.n ≤ 1099511627776
  b : 0 ≤ L.b ∧ L.b ≤ 1099511627776
  s : 0 ≤ L.s ∧ L.s ≤ 1099511627776
def recB (x : Sp) : Bs := u8 (recL (bodyL x))
def recsB (xs : List Sp) : Bs := u8 (recs xs)
theorem recsB_len (xs : List Sp) : (recsB xs).length = (recs xs).length := u8_len _
theorem recB_len {x : Sp} (h : Can x) : 11 ≤ (recB x).length ∧ (recB x).length ≤ 414 := by
  have := body_len h
  unfold recB
  rw [u8_len, rec_len]
  omega
theorem recsB_snoc (xs : List Sp) (x : Sp) : recsB (xs ++ [x]) = recsB xs ++ recB x := by
  unfold recsB recB
  rw [recs_append, recs_one, u8_append]
theorem nb_recs {xs : List Sp} (h : ∀ x ∈ xs, Can x) : nb (recsB xs) = recs xs := nb_u8 (recs_lt h)
noncomputable def addL (D : Dk) (L : Lg) (x : Sp) : Int × Dk × Lg :=
  if L.k = true then (8, D, L) else
  if canB x = false then (1, D, L) else
  if (D.append dN (recB x)).1 ≠ 0 then ((D.append dN (recB x)).1, (D.append dN (recB x)).2, { L with k := true }) else
  (0, (D.append dN (recB x)).2, { L with n := L.n + 1, b := L.b + ((recB x).length : Int) })
noncomputable def syncL (D : Dk) (L : Lg) : Int × Dk × Lg :=
  if L.k = true then (8, D, L) else
  if L.s = L.n then (0, D, L) else
  if (D.sync dN).1 ≠ 0 then ((D.sync dN).1, (D.sync dN).2, { L with k := true }) else
  (0, (D.sync dN).2, { L with s := L.n })
noncomputable def rewL (D : Dk) (L : Lg) (xs : List Sp) : Int × Dk × Lg :=
  if xs.all canB = false then (1, D, L) else
  if (repl D (recsB xs)).1 ≠ 0 then ((repl D (recsB xs)).1, (repl D (recsB xs)).2, L) else
  (0, (repl D (recsB xs)).2, ⟨(xs.length : Int), ((recsB xs).length : Int), (xs.length : Int), false⟩)
theorem allCan {xs : List Sp} : xs.all canB = true ↔ ∀ x ∈ xs, Can x := by
  rw [List.all_eq_true]
  exact ⟨fun h x hx => canB_iff.1 (h x hx), fun h x hx => canB_iff.2 (h x hx)⟩
theorem reads_le {l : List Nat} {xs : List Sp} {n : Nat} (h : Reads l xs n) : n ≤ l.length ∧ 6 * xs.length ≤ n := by
  induction h with
  | stop h => simp
  | more h r ih =>
    obtain ⟨_, k, hk, h6, hl⟩ := rd_ok h
    rw [hk, Int.toNat_natCast] at ih ⊢
    rw [List.length_drop] at ih
    simp only [List.length_cons]
    omega
end Go.Proofs.YtdmgobffhpgjlaaGreat.Sl.Dg
end

section
namespace Go.Proofs.YtdmgobffhpgjlaaGreat.Sl.Dg
open Go.RowKit Go.PlainAid Go.Proofs.YtdmgobffhpgjlaaGreat.Cr
open Go.Proofs.YtdmgobffhpgjlaaGreat.Pk (Bs Fi Dk kl insF getF delF updF usedF isName onL onL_same onL_some onL_none)
set_option linter.unusedVariables false
set_option maxRecDepth 20000
set_option linter.unusedSimpArgs false

/-! ### a disk that doesn't fail any more -/
structure Calm (D : Dk) : Prop where
  off : D.off = false
  no : D.kd = 0 ∨ D.fm + D.fa < D.ops + 1
section
variable {D : Dk} {all new s : Bs} {sf sn : Nat}
theorem Calm.tick (h : Calm D) (k : Nat) (l : List Fi) : Calm { D with ops := D.ops + k, L := l } := by
  refine ⟨h.off, ?_⟩
  rcases h.no with c | c
  · exact .inl c
  · exact .inr (by simp only; omega)
theorem beg_calm (h : Calm D) : D.beg true = (0, { D with ops := D.ops + 1 }) := by
  unfold Dk.beg
  rw [if_neg (by simp), if_neg (by rw [h.off]; simp)]
  unfold Dk.fail
  rw [if_pos]
  rcases h.no with c | c
  · exact .inl c
  · exact .inr (.inr (by simp only; omega))
def oneD (all : Bs) (sf : Nat) : List Fi := [⟨dN, all, sf⟩]
def twoD (all : Bs) (sf : Nat) (new : Bs) (sn : Nat) : List Fi := [⟨dN, all, sf⟩, ⟨nN, new, sn⟩]
theorem get_d1 : getF dN (oneD all sf) = some ⟨dN, all, sf⟩ := rfl
theorem get_n1 : getF nN (oneD all sf) = none := rfl
theorem get_n2 : getF nN (twoD all sf new sn) = some ⟨nN, new, sn⟩ := rfl
theorem upd_d1 (a : Bs) (k : Nat) : updF dN ⟨dN, a, k⟩ (oneD all sf) = oneD a k := rfl
theorem upd_n2 (a : Bs) (k : Nat) : updF nN ⟨nN, a, k⟩ (twoD all sf new sn) = twoD all sf a k := rfl
theorem ins_n1 : insF ⟨nN, new, sn⟩ (oneD all sf) = twoD all sf new sn := rfl
theorem ren_2 : insF ⟨dN, new, sn⟩ (delF dN (delF nN (twoD all sf new sn))) = oneD new sn := rfl
theorem used_1 : usedF (oneD all sf) = all.length := rfl
theorem used_2 : usedF (twoD all sf new sn) = all.length + new.length := rfl

theorem disc_one (hL : D.L = oneD all sf) : disc D = (0, D) := by unfold disc Dk.size; rw [hL, get_n1, if_pos (by decide)]
theorem size_one (hL : D.L = oneD all sf) : D.size dN = (all.length : Int) := by unfold Dk.size; rw [hL, get_d1]
theorem make_one (hL : D.L = oneD all sf) : make D = (0, D) := by
  have := size_one hL
  unfold make
  rw [if_neg (by omega)]
theorem append_calm (h : Calm D) (hL : D.L = oneD all sf) (hr : ((all.length + s.length : Nat) : Int) ≤ D.room) : D.append dN s = (0, { D with ops := D.ops + 1, L := oneD (all ++ s) sf }) := by
  unfold Dk.append
  simp only [dN_name, beg_calm h, hL, get_d1]
  rw [if_neg (by simp), if_neg (by rw [used_1]; omega), upd_d1]
theorem sync_calm (h : Calm D) (hL : D.L = oneD all sf) : D.sync dN = (0, { D with ops := D.ops + 1, L := oneD all all.length }) := by
  unfold Dk.sync
  simp only [dN_name, beg_calm h, hL, get_d1]
  rw [if_neg (by simp), upd_d1]
theorem read_calm (h : Calm D) (hL : D.L = oneD all sf) : D.read dN 0 (all.length : Int) = (all, 0, { D with ops := D.ops + 1 }) := by
  unfold Dk.read
  have hg : (isName dN && decide ((0 : Int) ≤ 0) && decide (0 ≤ (all.length : Int))) = true := by simp [dN_name]
  simp only [hg, beg_calm h, hL, get_d1]
  rw [if_neg (by simp), if_neg (by omega)]
  simp
theorem load_one (h : Calm D) (hL : D.L = oneD all sf) : load D = (all, 0, { D with ops := D.ops + 2, L := oneD all all.length }) := by
  have h1 : disc D = (0, D) := by unfold disc Dk.size; rw [hL, get_n1, if_pos (by decide)]
  have hs : D.size dN = (all.length : Int) := by unfold Dk.size; rw [hL, get_d1]
  have h2 : make D = (0, D) := by unfold make; rw [if_neg (by rw [hs]; omega)]
  have h3 := read_calm h hL
  have h4 : ({ D with ops := D.ops + 1 } : Dk).sync dN = (0, { D with ops := D.ops + 2, L := oneD all all.length }) := by
    have := sync_calm (D := { D with ops := D.ops + 1 }) (h.tick 1 D.L) hL
    rw [this]
    simp only [Int.add_assoc]
    rfl
  unfold load
  simp only [h1, h2, hs, h3, h4]
  simp
theorem load_new (h : Calm D) (hL : D.L = []) : load D = ([], 0, { D with ops := D.ops + 3, L := oneD [] 0 }) := by
  have h1 : disc D = (0, D) := by unfold disc Dk.size; rw [hL]; rfl
  have h2 : make D = (0, { D with ops := D.ops + 1, L := oneD [] 0 }) := by
    unfold make Dk.size
    rw [hL]
    simp only [show getF dN ([] : List Fi) = none from rfl]
    rw [if_pos (by decide)]
    unfold Dk.create
    simp only [dN_name, beg_calm h, hL]
    rfl
  have h0 : disc { D with ops := D.ops + 1, L := oneD [] 0 } = (0, { D with ops := D.ops + 1, L := oneD [] 0 }) := disc_one rfl
  have h9 : make { D with ops := D.ops + 1, L := oneD [] 0 } = (0, { D with ops := D.ops + 1, L := oneD [] 0 }) := make_one rfl
  have h3 := load_one (D := { D with ops := D.ops + 1, L := oneD [] 0 }) (h.tick 1 _) rfl
  unfold load at h3 ⊢
  rw [h0] at h3
  simp only [h9] at h3
  rw [h1]
  simp only [h2]
  simp only [Int.add_assoc] at h3 ⊢
  exact h3
theorem create_calm (h : Calm D) (hL : D.L = oneD all sf) : D.create nN = (0, { D with ops := D.ops + 1, L := twoD all sf [] 0 }) := by
  unfold Dk.create
  simp only [nN_name, beg_calm h, hL, get_n1]
  rw [if_neg (by simp), if_neg (by simp), if_neg (by simp [oneD]), ins_n1]
theorem fill_calm (h : Calm D) (hL : D.L = twoD all sf [] 0) (hr : ((all.length + s.length : Nat) : Int) ≤ D.room) : ∃ k : Nat, k ≤ 1 ∧ fill D s = (0, { D with ops := D.ops + k, L := twoD all sf s 0 }) := by
  unfold fill
  by_cases c : s = []
  · subst c
    refine ⟨0, by omega, ?_⟩
    rw [if_pos rfl, ← hL]
    simp
  · refine ⟨1, by omega, ?_⟩
    rw [if_neg c]
    unfold Dk.append
    simp only [nN_name, beg_calm h, hL, get_n2]
    rw [if_neg (by simp), if_neg (by rw [used_2]; simp; omega), upd_n2]
    simp
theorem sync_n (h : Calm D) (hL : D.L = twoD all sf new sn) : D.sync nN = (0, { D with ops := D.ops + 1, L := twoD all sf new new.length }) := by
  unfold Dk.sync
  simp only [nN_name, beg_calm h, hL, get_n2]
  rw [if_neg (by simp), upd_n2]
theorem rename_n (h : Calm D) (hL : D.L = twoD all sf new sn) : D.rename nN dN = (0, { D with ops := D.ops + 1, L := oneD new sn }) := by
  unfold Dk.rename
  simp only [nN_name, dN_name, Bool.and_self, beg_calm h, hL, get_n2]
  rw [if_neg (by simp), ren_2]
theorem repl_one (h : Calm D) (hL : D.L = oneD all sf) (hr : ((all.length + s.length : Nat) : Int) ≤ D.room) : ∃ k : Nat, k ≤ 4 ∧ repl D s = (0, { D with ops := D.ops + k, L := oneD s s.length }) := by
  have h2 := create_calm h hL
  have c2 : Calm { D with ops := D.ops + 1, L := twoD all sf [] 0 } := h.tick 1 _
  obtain ⟨k, hk, h3⟩ := fill_calm (s := s) c2 rfl hr
  have c3 : Calm { D with ops := D.ops + 1 + k, L := twoD all sf s 0 } := c2.tick k _
  have h4 := sync_n c3 rfl
  have c4 : Calm { D with ops := D.ops + 1 + k + 1, L := twoD all sf s s.length } := c3.tick 1 _
  have h5 := rename_n c4 rfl
  refine ⟨k + 3, by omega, ?_⟩
  unfold repl
  simp only [disc_one hL, h2, h3, h4, h5]
  simp
  omega

/-! ### one that may fail: nothing but what is told turns -/
/-! ### behind a loss of power -/
theorem on_eq (D : Dk) (ks : List Int) : D.offd.on ks = { D.offd with off := false, L := onL ks D.L } := by
  unfold Dk.on
  rw [if_pos (show D.offd.off = true from rfl)]
  rfl
theorem on_calm (D : Dk) (ks : List Int) : Calm (D.offd.on ks) := by
  rw [on_eq]
  exact ⟨rfl, .inl rfl⟩
theorem on_room (D : Dk) (ks : List Int) : (D.offd.on ks).room = D.room ∧ (D.offd.on ks).ops = D.ops := by
  rw [on_eq]
  exact ⟨rfl, rfl⟩
end

/-! ### what is read of a beginning -/
end Go.Proofs.YtdmgobffhpgjlaaGreat.Sl.Dg
end

section
namespace Go.Proofs.YtdmgobffhpgjlaaGreat.Sl.Dg
open Go.RowKit Go.PlainAid Go.Proofs.YtdmgobffhpgjlaaGreat.Cr
open Go.Proofs.YtdmgobffhpgjlaaGreat.Pk (Bs Fi Dk kl HasD zone DiskAt Post Gs)
set_option linter.unusedVariables false
set_option maxRecDepth 20000
set_option linter.unusedSimpArgs false

def lgV (p : Nat) (L : Lg) : Array Value := #[.pointer (some ⟨p, 0, none⟩), .int .i64 L.n, .int .i64 L.b, .int .i64 L.s, .bool L.k]
def dob (p : Nat) (L : Lg) : Obj := .cells (lgV p L) 82 (0, 0)
/-- what lies in a disk's zone -/
theorem zone_type {w : World} {p m : Nat} {G : Gs} {D : Dk} (h : DiskAt w p m G D) {b : Nat} {c : Array Value} {T : TypeId} {fr : Nat × Nat} (hb : w.heap[b]? = some (.cells c T fr)) (h1 : T ≠ 74) (h2 : T ≠ 89) (h3 : T ≠ 5) : ¬ zone p m G D.L b := by
  rintro (rfl | rfl | ⟨f, hf, rfl | hr⟩)
  · have e := h.head.symm.trans hb
    injection e with e
    injection e with _ e
    exact h1 e.symm
  · obtain ⟨es, clock, hm⟩ := Pk.map_block h.map
    have e := hm.symm.trans hb
    injection e with e
    cases e
  · have e := (h.file f hf).st.symm.trans hb
    injection e with e
    injection e with _ e
    exact h2 e.symm
  · obtain ⟨cur, fr', hc⟩ := Pk.row_block (h.file f hf).row hr
    have e := hc.symm.trans hb
    injection e with e
    injection e with _ e
    exact h3 e.symm
/-- the law's own disk, and its log; X: blocks of the law's own beside them -/
structure HasL (w0 w : World) (p q : Nat) (D : Dk) (L : Lg) (X : List (Nat × Obj)) : Prop where
  d : HasD w0 w p D ((q, dob p L) :: X)
  hq : w0.heap.size ≤ q
  hx : ∀ y ∈ X, y.1 ≠ q
section
variable {w0 w w' : World} {p q : Nat} {D D' : Dk} {L L' : Lg} {X : List (Nat × Obj)}
theorem HasL.at (h : HasL w0 w p q D L X) : At w q 82 (lgV p L) := ⟨h.d.at (List.mem_cons_self ..)⟩
theorem HasL.lt (h : HasL w0 w p q D L X) : q < w.heap.size := h.at.lt
theorem HasL.below (h : HasL w0 w p q D L X) : Below w0.heap.size w0 w := h.d.below
theorem HasL.ok (h : HasL w0 w p q D L X) : D.Ok := h.d.ok
theorem HasL.kept (h : HasL w0 w p q D L X) (hb : Below w.heap.size w w') : HasL w0 w' p q D L X := ⟨h.d.kept hb, h.hq, h.hx⟩
theorem HasL.drew (h : HasL w0 w p q D L X) : HasL w0 w.drew p q D L X := h.kept (Below.refl _ _).drew
theorem HasL.drewN (h : HasL w0 w p q D L X) (n : Nat) : HasL w0 (w.drewN n) p q D L X := ⟨h.d.drewN n, h.hq, h.hx⟩
theorem HasL.alloc (h : HasL w0 w p q D L X) (o : Obj) : HasL w0 (w.alloc o) p q D L X := ⟨h.d.alloc o, h.hq, h.hx⟩
theorem HasL.disk (h : HasL w0 w p q D L X) : HasD w0 w p D X := h.d.less fun x hx => List.mem_cons_of_mem _ hx
theorem HasL.less (h : HasL w0 w p q D L X) {Y : List (Nat × Obj)} (hY : ∀ x ∈ Y, x ∈ X) : HasL w0 w p q D L Y :=
  ⟨h.d.less fun x hx => by
    rcases List.mem_cons.1 hx with rfl | hx
    · exact List.mem_cons_self ..
    · exact List.mem_cons_of_mem _ (hY x hx), h.hq, fun y hy => h.hx y (hY y hy)⟩
/-- the log's own struct has turned, nothing else -/
theorem HasL.turn (h : HasL w0 w p q D L X) (hq : w'.heap[q]? = some (dob p L')) (hs : ∀ b, b ≠ q → w'.heap[b]? = w.heap[b]?) (ho : w'.os = w.os) (ht : w'.tape = w.tape) (hu : w'.output = w.output) (hz : w'.heap.size = w.heap.size) : HasL w0 w' p q D L' X := by
  obtain ⟨m, G, hd, z, hX⟩ := h.d.is
  have nq := (hX _ (List.mem_cons_self ..)).2
  refine ⟨⟨⟨m, G, hd.kept fun b hb => hs b fun e => nq (e ▸ hb), z, fun x hx => ?_⟩, h.d.below.trans ⟨ho, ht, hu, by rw [hz]; exact Nat.le_refl _, fun b hb => hs b fun e => ?_⟩⟩, h.hq, h.hx⟩
  · rcases List.mem_cons.1 hx with rfl | hx
    · exact ⟨hq, nq⟩
    · rw [hs _ (h.hx x hx)]
      exact hX x (List.mem_cons_of_mem _ hx)
  · have := h.hq
    omega
theorem HasL.set (h : HasL w0 w p q D L X) (j : Nat) (v : Value) (e : (lgV p L).setIfInBounds j v = lgV p L') : HasL w0 (w.setCell ⟨q, j, none⟩ v) p q D L' X := by
  refine h.turn (by rw [(h.at.set j v).heap, e]; rfl) (fun b hb => Below.heap_setCell _ _ _ _ hb) rfl rfl rfl ?_
  simp [World.setCell]
theorem HasL.setRow (h : HasL w0 w p q D L X) : HasL w0 (w.setRow q (lgV p L')) p q D L' X :=
  h.turn (h.at.row _).heap (fun b hb => heap_setRow_other hb) rfl rfl rfl (by simp)
/-- a log that is made now -/
theorem has_log (h : HasD w0 w p D X) (hb : Below w.heap.size w w') {q : Nat} (hn : w.heap.size ≤ q) (ho : w'.heap[q]? = some (dob p L)) : HasL w0 w' p q D L X := by
  refine ⟨h.more hb hn ho, Nat.le_trans h.below.size hn, fun y hy e => ?_⟩
  have := Pk.in_heap (h.at (b := y.1) (o := y.2) hy)
  omega
end

/-! ### slips stay -/
structure Kp (w w' : World) : Prop where
  kept : ∀ (b : Nat) (c : Array Value) (fr : Nat × Nat), w.heap[b]? = some (.cells c 39 fr) → w'.heap[b]? = w.heap[b]?
theorem Kp.refl (w : World) : Kp w w := ⟨fun _ _ _ _ => rfl⟩
theorem Kp.trans {a b c : World} (h : Kp a b) (k : Kp b c) : Kp a c := ⟨fun i x fr hi => (k.kept i x fr (by rw [h.kept i x fr hi]; exact hi)).trans (h.kept i x fr hi)⟩
theorem Kp.of_below {w w' : World} (h : Below w.heap.size w w') : Kp w w' := ⟨fun b c fr hb => h.block b (Pk.in_heap hb)⟩
theorem Kp.at {w w' : World} {B : Nat} {cs : Array Value} (k : Kp w w') (h : At w B 39 cs) : At w' B 39 cs := h.same (k.kept _ _ _ h.heap)
theorem Kp.owns {w w' : World} {N sz n : Nat} {v : Value} {xs : List Value} (k : Kp w w') (h : w.ownsRow N 39 sz v n xs) : w'.ownsRow N 39 sz v n xs := by
  refine ⟨h.1, ?_⟩
  rcases h.2 with hn | ⟨g, cap, cur, rfl, hb, hg, rest⟩
  · exact .inl hn
  · exact .inr ⟨g, cap, cur, rfl, hb, by rw [k.kept g _ _ hg]; exact hg, rest⟩
def slipAt (w : World) (b : Nat) : Option (Nat × Obj) :=
  match w.heap[b]? with
  | some (.cells c T fr) => if T = 39 then some (b, .cells c T fr) else none
  | _ => none
theorem slipAt_some {w : World} {b : Nat} {x : Nat × Obj} (h : slipAt w b = some x) : ∃ c fr, x = (b, .cells c 39 fr) ∧ w.heap[b]? = some (.cells c 39 fr) := by
  unfold slipAt at h
  split at h
  · rename_i c T fr hb
    split at h
    · rename_i e
      subst e
      exact ⟨c, fr, (Option.some.inj h).symm, hb⟩
    · cases h
  · cases h
theorem slipAt_of {w : World} {b : Nat} {c : Array Value} {fr : Nat × Nat} (h : w.heap[b]? = some (.cells c 39 fr)) : slipAt w b = some (b, .cells c 39 fr) := by
  unfold slipAt
  rw [h]
  simp
def slipX (w : World) : List (Nat × Obj) := (List.range w.heap.size).filterMap (slipAt w)
theorem mem_slipX {w : World} {x : Nat × Obj} : x ∈ slipX w ↔ ∃ c fr, x.2 = .cells c 39 fr ∧ w.heap[x.1]? = some x.2 := by
  unfold slipX
  rw [List.mem_filterMap]
  constructor
  · rintro ⟨b, _, hb⟩
    obtain ⟨c, fr, rfl, h⟩ := slipAt_some hb
    exact ⟨c, fr, rfl, h⟩
  · rintro ⟨c, fr, e, h⟩
    rw [e] at h
    refine ⟨x.1, by simpa using Pk.in_heap h, ?_⟩
    rw [slipAt_of h, ← e]
section
variable {w0 w w' : World} {p q : Nat} {D D' : Dk} {L L' : Lg} {X : List (Nat × Obj)} {f : Nat} {args : Array Value} {R : Ending → World → Prop}
theorem has_slips (h : HasD w0 w p D X) : HasD w0 w p D (slipX w ++ X) := by
  obtain ⟨m, G, hd, hz, hX⟩ := h.is
  refine ⟨⟨m, G, hd, hz, fun x hx => ?_⟩, h.below⟩
  rcases List.mem_append.1 hx with hx | hx
  · obtain ⟨c, fr, e, hb⟩ := mem_slipX.1 hx
    refine ⟨hb, ?_⟩
    rw [e] at hb
    exact zone_type hd hb (by decide) (by decide) (by decide)
  · exact hX x hx
theorem kp_of (h : HasD w0 w' p D (slipX w ++ X)) : Kp w w' := by
  refine ⟨fun b c fr hb => ?_⟩
  have : ((b, .cells c 39 fr) : Nat × Obj) ∈ slipX w ++ X := List.mem_append_left _ (mem_slipX.2 ⟨c, fr, rfl, hb⟩)
  rw [h.at this, hb]
theorem HasL.slips (h : HasL w0 w p q D L X) : HasL w0 w p q D L (slipX w ++ X) := by
  have := has_slips h.d
  refine ⟨this.less fun x hx => by simp only [List.mem_cons, List.mem_append] at hx ⊢; rcases hx with c | c | c; (· exact .inr (.inl c)); (· exact .inl c); (· exact .inr (.inr c)), h.hq, fun y hy => ?_⟩
  rcases List.mem_append.1 hy with hy | hy
  · obtain ⟨c, fr, e, hb⟩ := mem_slipX.1 hy
    intro e2
    have h2 := h.at.heap
    rw [← e2, hb, e] at h2
    injection h2 with h2
    injection h2 with _ h2
    exact absurd h2 (by decide)
  · exact h.hx y hy
/-- a call that is told for every X leaves the slips -/
theorem HasL.frame (h : HasL w0 w p q D L X) (c : ∀ X, HasL w0 w p q D L X → Calls Tryz.prog f args w fun e w' => R e w' ∧ HasL w0 w' p q D' L' X) : Calls Tryz.prog f args w fun e w' => R e w' ∧ HasL w0 w' p q D' L' X ∧ Kp w w' :=
  (c _ h.slips).mono fun e w' ⟨r, h'⟩ => ⟨r, h'.less fun x hx => List.mem_append_right _ hx, kp_of h'.disk⟩
theorem dframe (h : HasD w0 w p D X) (c : ∀ X, HasD w0 w p D X → Calls Tryz.prog f args w fun e w' => R e w' ∧ HasD w0 w' p D' X) : Calls Tryz.prog f args w fun e w' => R e w' ∧ HasD w0 w' p D' X ∧ Kp w w' :=
  (c _ (has_slips h)).mono fun e w' ⟨r, h'⟩ => ⟨r, h'.less fun x hx => List.mem_append_right _ hx, kp_of h'⟩
end
end Go.Proofs.YtdmgobffhpgjlaaGreat.Sl.Dg
end
