/-
  The log over a disk as the document tells it: what each call makes of the disk and of the log. No program text.
-/
import Derived.Test.YtdmgobffhpgjlaaGreatPkHas
import Derived.Test.YtdmgobffhpgjlaaGreatSlAll

namespace Go.Proofs.YtdmgobffhpgjlaaGreat.Sl.Dg
open Go.RowKit Go.PlainAid Go.Proofs.YtdmgobffhpgjlaaGreat.Cr
open Go.Proofs.YtdmgobffhpgjlaaGreat.Pk (Bs Fi Dk kl insF getF delF updF usedF isName onL)
set_option linter.unusedVariables false
set_option maxRecDepth 20000
set_option linter.unusedSimpArgs false

/-! ### bytes -/
def u8 (l : List Nat) : Bs := l.map UInt8.ofNat
def nb (l : Bs) : List Nat := l.map UInt8.toNat
theorem u8_len (l : List Nat) : (u8 l).length = l.length := by simp [u8]
theorem nb_len (l : Bs) : (nb l).length = l.length := by simp [nb]
theorem kl_strOf (l : List Nat) : kl (Cr.strOf l) = u8 l := by simp [kl, Cr.strOf, u8]
theorem u8_append (a b : List Nat) : u8 (a ++ b) = u8 a ++ u8 b := by simp [u8]
theorem nb_take (a : Bs) (n : Nat) : nb (a.take n) = (nb a).take n := by simp [nb, List.map_take]
theorem nb_u8 {l : List Nat} (h : ∀ x ∈ l, x < 256) : nb (u8 l) = l := by
  unfold nb u8
  rw [List.map_map]
  conv => rhs; rw [← List.map_id l]
  refine List.map_congr_left fun x hx => ?_
  have := h x hx
  simp [Nat.mod_eq_of_lt this]
theorem bl_mk (b : Bs) : bl ⟨b.toArray⟩ = nb b := by simp [bl, nb]
theorem mk_size (b : Bs) : (⟨b.toArray⟩ : ByteArray).size = b.length := by simp [ByteArray.size]
/-! ### the files -/
def dN : Bs := [100, 105, 97, 114, 121]
def nN : Bs := [100, 105, 97, 114, 121, 46, 110, 101, 119]
def dS : ByteArray := ⟨#[100, 105, 97, 114, 121]⟩
def nS : ByteArray := ⟨#[100, 105, 97, 114, 121, 46, 110, 101, 119]⟩
theorem kl_dS : kl dS = dN := rfl
theorem kl_nS : kl nS = nN := rfl
theorem dN_name : isName dN = true := rfl
theorem nN_name : isName nN = true := rfl
/-- what a Rewrite that failed has left is taken away -/
def disc (D : Dk) : Int × Dk := if D.size nN < 0 then (0, D) else D.delete nN
def make (D : Dk) : Int × Dk := if D.size dN < 0 then D.create dN else (0, D)
/-- all bytes of the file, safe -/
def load (D : Dk) : Bs × Int × Dk :=
  if (disc D).1 ≠ 0 then ([], disc D) else
  if (make (disc D).2).1 ≠ 0 then ([], make (disc D).2) else
  if ((make (disc D).2).2.read dN 0 ((make (disc D).2).2.size dN)).2.1 ≠ 0 then ([], ((make (disc D).2).2.read dN 0 ((make (disc D).2).2.size dN)).2) else
  if (((make (disc D).2).2.read dN 0 ((make (disc D).2).2.size dN)).2.2.sync dN).1 ≠ 0 then ([], ((make (disc D).2).2.read dN 0 ((make (disc D).2).2.size dN)).2.2.sync dN) else
  (((make (disc D).2).2.read dN 0 ((make (disc D).2).2.size dN)).1, 0, (((make (disc D).2).2.read dN 0 ((make (disc D).2).2.size dN)).2.2.sync dN).2)
def fill (D : Dk) (s : Bs) : Int × Dk := if s = [] then (0, D) else D.append nN s
/-- the bytes are put in the file's place -/
def repl (D : Dk) (s : Bs) : Int × Dk :=
  if (disc D).1 ≠ 0 then disc D else
  if ((disc D).2.create nN).1 ≠ 0 then (disc D).2.create nN else
  if (fill ((disc D).2.create nN).2 s).1 ≠ 0 then fill ((disc D).2.create nN).2 s else
  if ((fill ((disc D).2.create nN).2 s).2.sync nN).1 ≠ 0 then (fill ((disc D).2.create nN).2 s).2.sync nN else
  ((fill ((disc D).2.create nN).2 s).2.sync nN).2.rename nN dN

/-! ### how many operations they take -/
theorem append_ops (D : Dk) (n s : Bs) : D.ops ≤ (D.append n s).2.ops ∧ (D.append n s).2.ops ≤ D.ops + 1 := by
  obtain ⟨h1, h2, h3, h4⟩ := Pk.beg_L D (isName n)
  unfold Dk.append
  simp only
  split
  · exact ⟨h4, h3⟩
  · split
    · exact ⟨h4, h3⟩
    · split <;> exact ⟨h4, h3⟩
theorem create_ops (D : Dk) (n : Bs) : D.ops ≤ (D.create n).2.ops ∧ (D.create n).2.ops ≤ D.ops + 1 := by
  obtain ⟨h1, h2, h3, h4⟩ := Pk.beg_L D (isName n)
  unfold Dk.create
  simp only
  split
  · exact ⟨h4, h3⟩
  · split
    · exact ⟨h4, h3⟩
    · split <;> exact ⟨h4, h3⟩
theorem sync_ops (D : Dk) (n : Bs) : D.ops ≤ (D.sync n).2.ops ∧ (D.sync n).2.ops ≤ D.ops + 1 := by
  obtain ⟨h1, h2, h3, h4⟩ := Pk.beg_L D (isName n)
  unfold Dk.sync
  simp only
  split
  · exact ⟨h4, h3⟩
  · split <;> exact ⟨h4, h3⟩
theorem delete_ops (D : Dk) (n : Bs) : D.ops ≤ (D.delete n).2.ops ∧ (D.delete n).2.ops ≤ D.ops + 1 := by
  obtain ⟨h1, h2, h3, h4⟩ := Pk.beg_L D (isName n)
  unfold Dk.delete
  simp only
  split
  · exact ⟨h4, h3⟩
  · split <;> exact ⟨h4, h3⟩
theorem rename_ops (D : Dk) (n t : Bs) : D.ops ≤ (D.rename n t).2.ops ∧ (D.rename n t).2.ops ≤ D.ops + 1 := by
  obtain ⟨h1, h2, h3, h4⟩ := Pk.beg_L D (isName n && isName t)
  unfold Dk.rename
  simp only
  split
  · exact ⟨h4, h3⟩
  · split <;> exact ⟨h4, h3⟩
theorem read_ops (D : Dk) (n : Bs) (a b : Int) : D.ops ≤ (D.read n a b).2.2.ops ∧ (D.read n a b).2.2.ops ≤ D.ops + 1 := by
  obtain ⟨h1, h2, h3, h4⟩ := Pk.beg_L D (isName n && decide (0 ≤ a) && decide (0 ≤ b))
  unfold Dk.read
  simp only
  split
  · exact ⟨h4, h3⟩
  · split
    · exact ⟨h4, h3⟩
    · split <;> exact ⟨h4, h3⟩
theorem disc_ops (D : Dk) : D.ops ≤ (disc D).2.ops ∧ (disc D).2.ops ≤ D.ops + 1 := by
  unfold disc
  split
  · exact ⟨Int.le_refl _, by simp; omega⟩
  · exact delete_ops D nN
theorem make_ops (D : Dk) : D.ops ≤ (make D).2.ops ∧ (make D).2.ops ≤ D.ops + 1 := by
  unfold make
  split
  · exact create_ops D dN
  · exact ⟨Int.le_refl _, by simp; omega⟩
theorem fill_ops (D : Dk) (s : Bs) : D.ops ≤ (fill D s).2.ops ∧ (fill D s).2.ops ≤ D.ops + 1 := by
  unfold fill
  split
  · exact ⟨Int.le_refl _, by simp; omega⟩
  · exact append_ops D nN s
theorem load_ops (D : Dk) : D.ops ≤ (load D).2.2.ops ∧ (load D).2.2.ops ≤ D.ops + 4 := by
  have h1 := disc_ops D
  have h2 := make_ops (disc D).2
  have h3 := read_ops (make (disc D).2).2 dN 0 ((make (disc D).2).2.size dN)
  have h4 := sync_ops ((make (disc D).2).2.read dN 0 ((make (disc D).2).2.size dN)).2.2 dN
  unfold load
  split
  · simp only; omega
  · split
    · simp only; omega
    · split
      · simp only; omega
      · split <;> (simp only; omega)
theorem repl_ops (D : Dk) (s : Bs) : D.ops ≤ (repl D s).2.ops ∧ (repl D s).2.ops ≤ D.ops + 5 := by
  have h1 := disc_ops D
  have h2 := create_ops (disc D).2 nN
  have h3 := fill_ops ((disc D).2.create nN).2 s
  have h4 := sync_ops (fill ((disc D).2.create nN).2 s).2 nN
  have h5 := rename_ops ((fill ((disc D).2.create nN).2 s).2.sync nN).2 nN dN
  unfold repl
  split
  · omega
  · split
    · omega
    · split
      · omega
      · split <;> omega

/-! ### the log -/
structure Lg where
  n : Int
  b : Int
  s : Int
  k : Bool
structure Lg.Fits (L : Lg) : Prop where
  n : 0 ≤ L.n ∧ L.n ≤ 1099511627776
  b : 0 ≤ L.b ∧ L.b ≤ 1099511627776
  s : 0 ≤ L.s ∧ L.s ≤ 1099511627776
def recB (x : Sp) : Bs := u8 (recL (bodyL x))
def recsB (xs : List Sp) : Bs := u8 (recs xs)
theorem recsB_len (xs : List Sp) : (recsB xs).length = (recs xs).length := u8_len _
theorem recB_len {x : Sp} (h : Can x) : 11 ≤ (recB x).length ∧ (recB x).length ≤ 414 := by
  have := body_len h
  unfold recB
  rw [u8_len, rec_len]
  omega
theorem recsB_snoc (xs : List Sp) (x : Sp) : recsB (xs ++ [x]) = recsB xs ++ recB x := by
  unfold recsB recB
  rw [recs_append, recs_one, u8_append]
theorem nb_recs {xs : List Sp} (h : ∀ x ∈ xs, Can x) : nb (recsB xs) = recs xs := nb_u8 (recs_lt h)
noncomputable def addL (D : Dk) (L : Lg) (x : Sp) : Int × Dk × Lg :=
  if L.k = true then (8, D, L) else
  if canB x = false then (1, D, L) else
  if (D.append dN (recB x)).1 ≠ 0 then ((D.append dN (recB x)).1, (D.append dN (recB x)).2, { L with k := true }) else
  (0, (D.append dN (recB x)).2, { L with n := L.n + 1, b := L.b + ((recB x).length : Int) })
noncomputable def syncL (D : Dk) (L : Lg) : Int × Dk × Lg :=
  if L.k = true then (8, D, L) else
  if L.s = L.n then (0, D, L) else
  if (D.sync dN).1 ≠ 0 then ((D.sync dN).1, (D.sync dN).2, { L with k := true }) else
  (0, (D.sync dN).2, { L with s := L.n })
noncomputable def rewL (D : Dk) (L : Lg) (xs : List Sp) : Int × Dk × Lg :=
  if xs.all canB = false then (1, D, L) else
  if (repl D (recsB xs)).1 ≠ 0 then ((repl D (recsB xs)).1, (repl D (recsB xs)).2, L) else
  (0, (repl D (recsB xs)).2, ⟨(xs.length : Int), ((recsB xs).length : Int), (xs.length : Int), false⟩)
theorem allCan {xs : List Sp} : xs.all canB = true ↔ ∀ x ∈ xs, Can x := by
  rw [List.all_eq_true]
  exact ⟨fun h x hx => canB_iff.1 (h x hx), fun h x hx => canB_iff.2 (h x hx)⟩
theorem reads_le {l : List Nat} {xs : List Sp} {n : Nat} (h : Reads l xs n) : n ≤ l.length ∧ 6 * xs.length ≤ n := by
  induction h with
  | stop h => simp
  | more h r ih =>
    obtain ⟨_, k, hk, h6, hl⟩ := rd_ok h
    rw [hk, Int.toNat_natCast] at ih ⊢
    rw [List.length_drop] at ih
    simp only [List.length_cons]
    omega
end Go.Proofs.YtdmgobffhpgjlaaGreat.Sl.Dg
