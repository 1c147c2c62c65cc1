/-
  A log of which all is known, on a disk that doesn't fail, or that may: what its calls make of it.
-/
import Derived.Test.YtdmgobffhpgjlaaGreatDgDisk
import Derived.Test.YtdmgobffhpgjlaaGreatDgOps2

namespace Go.Proofs.YtdmgobffhpgjlaaGreat.Sl.Dg
open Go.RowKit Go.PlainAid Go.Proofs.YtdmgobffhpgjlaaGreat.Cr
open Go.Proofs.YtdmgobffhpgjlaaGreat.Pk (Bs Fi Dk kl HasD has_off has_on1 has_on has_arm has_new on_post KeepAt)
set_option linter.unusedVariables false
set_option maxRecDepth 20000
set_option linter.unusedSimpArgs false

def lgOf (xs : List Sp) (j : Nat) (k : Bool) : Lg := ⟨(xs.length : Int), ((recs xs).length : Int), (j : Int), k⟩
/-- the disk has just the log's file, with these slips, the first j of them safe -/
structure Mild (D : Dk) (xs : List Sp) (j : Nat) (room N : Int) : Prop where
  l : D.L = oneD (recsB xs) (recs (xs.take j)).length
  j : j ≤ xs.length
  r : D.room = room
  n : D.ops ≤ N
  can : ∀ x ∈ xs, Can x
structure Good (D : Dk) (xs : List Sp) (j : Nat) (room N : Int) : Prop extends Mild D xs j room N where
  calm : Calm D
section
variable {D : Dk} {xs ys : List Sp} {j : Nat} {room N : Int}
theorem Mild.up (h : Mild D xs j room N) {M : Int} (hM : N ≤ M) : Mild D xs j room M := ⟨h.l, h.j, h.r, Int.le_trans h.n hM, h.can⟩
theorem Good.up (h : Good D xs j room N) {M : Int} (hM : N ≤ M) : Good D xs j room M := ⟨h.toMild.up hM, h.calm⟩
theorem Mild.fits (h : Mild D xs j room N) (hl : xs.length ≤ 1000) (k : Bool) : (lgOf xs j k).Fits := by
  have h1 := recs_len_le h.can
  have h2 := h.j
  exact ⟨by simp [lgOf]; omega, by simp [lgOf]; omega, by simp [lgOf]; omega⟩
theorem take_app (x : Sp) (hj : j ≤ xs.length) : (xs ++ [x]).take j = xs.take j := List.take_append_of_le_length hj
theorem recs_app_len (x : Sp) : (recs (xs ++ [x])).length = (recs xs).length + (recB x).length := by
  rw [recs_append, recs_one, List.length_append]
  show _ = _ + (u8 (recL (bodyL x))).length
  rw [u8_len]
theorem can_app {x : Sp} (hc : ∀ y ∈ xs, Can y) (hx : Can x) : ∀ y ∈ xs ++ [x], Can y := by
  intro y hy
  rcases List.mem_append.1 hy with c | c
  · exact hc y c
  · simp at c; subst c; exact hx
theorem lgOf_snoc (x : Sp) (k : Bool) : ({ lgOf xs j k with n := (lgOf xs j k).n + 1, b := (lgOf xs j k).b + ((recB x).length : Int) } : Lg) = lgOf (xs ++ [x]) j k := by
  simp [lgOf, recs_app_len]
theorem room_ok (hc : ∀ y ∈ xs, Can y) (hl : xs.length ≤ 100) {x : Sp} (hx : Can x) (hr : 65536 ≤ room) : (((recsB xs).length + (recB x).length : Nat) : Int) ≤ room := by
  have h1 := recs_len_le hc
  have h2 := (recB_len hx).2
  rw [recsB_len]
  omega
theorem good_add (h : Good D xs j room N) {x : Sp} (hx : Can x) (hl : xs.length ≤ 100) (hr : 65536 ≤ room) : ∃ E, addL D (lgOf xs j false) x = (0, E, lgOf (xs ++ [x]) j false) ∧ Good E (xs ++ [x]) j room (N + 1) := by
  have h1 := append_calm (s := recB x) h.calm h.l (by rw [h.r]; exact room_ok h.can hl hx hr)
  refine ⟨{ D with ops := D.ops + 1, L := oneD (recsB xs ++ recB x) (recs (xs.take j)).length }, by rw [addL_ok rfl hx (by rw [h1]), h1, lgOf_snoc], ⟨?_, ?_, h.r, ?_, can_app h.can hx⟩, h.calm.tick 1 _⟩
  · rw [take_app x h.j, recsB_snoc]
  · have := h.j
    rw [List.length_append]
    omega
  · have := h.n
    simp only
    omega
theorem take_all (xs : List Sp) : xs.take xs.length = xs := List.take_length
theorem good_sync (h : Good D xs j room N) : ∃ E, syncL D (lgOf xs j false) = (0, E, lgOf xs xs.length false) ∧ Good E xs xs.length room (N + 1) := by
  by_cases c : j = xs.length
  · subst c
    exact ⟨D, syncL_none rfl rfl, h.up (by omega)⟩
  · have h1 := sync_calm h.calm h.l
    refine ⟨{ D with ops := D.ops + 1, L := oneD (recsB xs) (recsB xs).length }, by rw [syncL_ok rfl (by simp [lgOf]; omega) (by rw [h1]), h1]; rfl, ⟨by rw [take_all, recsB_len], Nat.le_refl _, h.r, ?_, h.can⟩, h.calm.tick 1 _⟩
    have := h.n
    simp only
    omega
theorem new_load (hr : 0 ≤ room ∧ room ≤ 4194304) : ∃ E, load (Dk.new room) = (recsB [], 0, E) ∧ Good E [] 0 room 3 := by
  have hc : Calm (Dk.new room) := ⟨rfl, .inl rfl⟩
  refine ⟨{ Dk.new room with ops := (Dk.new room).ops + 3, L := oneD [] 0 }, load_new hc rfl, ⟨rfl, Nat.le_refl _, ?_, ?_, by simp⟩, hc.tick 3 _⟩
  · simp [Dk.new]; omega
  · simp [Dk.new]
theorem read_back (hc : ∀ x ∈ xs, Can x) {zs : List Sp} {n : Nat} (h : Reads (nb (recsB xs)) zs n) : zs = xs ∧ n = (recs xs).length := by
  rw [nb_recs hc] at h
  exact reads_one h (reads_all hc)
theorem lgOf_read {n : Nat} (hn : n = (recs xs).length) : (⟨(xs.length : Int), (n : Int), (xs.length : Int), decide (n < (recsB xs).length)⟩ : Lg) = lgOf xs xs.length false := by
  subst hn
  simp [lgOf, recsB_len]
end

/-! ### the calls -/
section
variable {w0 w w' : World} {p q : Nat} {D D' : Dk} {L L' : Lg} {X : List (Nat × Obj)} {xs ys : List Sp} {j : Nat} {room N : Int}
/-- the law's own disk and log -/
structure HG (w0 w : World) (p q : Nat) (xs : List Sp) (j : Nat) (room N : Int) (X : List (Nat × Obj)) : Prop where
  is : ∃ D, HasL w0 w p q D (lgOf xs j false) X ∧ Good D xs j room N
theorem HG.kept (h : HG w0 w p q xs j room N X) (hb : Below w.heap.size w w') : HG w0 w' p q xs j room N X := by
  obtain ⟨D, h1, h2⟩ := h.is
  exact ⟨D, h1.kept hb, h2⟩
theorem HG.below (h : HG w0 w p q xs j room N X) : Below w0.heap.size w0 w := by
  obtain ⟨D, h1, h2⟩ := h.is
  exact h1.below
theorem HG.up (h : HG w0 w p q xs j room N X) {M : Int} (hM : N ≤ M) : HG w0 w p q xs j room M X := by
  obtain ⟨D, h1, h2⟩ := h.is
  exact ⟨D, h1, h2.up hM⟩
theorem add_good (h : HG w0 w p q xs j room N X) {x : Sp} (hx : Can x) (hl : xs.length ≤ 100) (hr : 65536 ≤ room) (hN : N ≤ 1000000) :
    Calls Tryz.prog 21 #[.pointer (some ⟨q, 0, none⟩), .agg (slV x)] w fun e w' => e = .returned (.int .i64 0) ∧ HG w0 w' p q (xs ++ [x]) j room (N + 1) X ∧ Kp w w' := by
  obtain ⟨D, h1, h2⟩ := h.is
  obtain ⟨E, h3, h4⟩ := good_add h2 hx hl hr
  have := h2.n
  have C := add_any h1 (by omega) (h2.fits (by omega) _) x (can_okay hx)
  rw [h3] at C
  exact C.mono fun e w' ⟨a, b, c⟩ => ⟨a, ⟨E, b, h4⟩, c⟩
theorem sync_good (h : HG w0 w p q xs j room N X) (hN : N ≤ 1000000) :
    Calls Tryz.prog 23 #[.pointer (some ⟨q, 0, none⟩)] w fun e w' => e = .returned (.int .i64 0) ∧ HG w0 w' p q xs xs.length room (N + 1) X ∧ Kp w w' := by
  obtain ⟨D, h1, h2⟩ := h.is
  obtain ⟨E, h3, h4⟩ := good_sync h2
  have := h2.n
  have C := sync_any h1 (by omega)
  rw [h3] at C
  exact C.mono fun e w' ⟨a, b, c⟩ => ⟨a, ⟨E, b, h4⟩, c⟩
/-- what an Open finds, where it finds all -/
def FoundPost (w0 w : World) (p : Nat) (xs : List Sp) (room N : Int) (X : List (Nat × Obj)) (e : Ending) (w' : World) : Prop :=
  ∃ (q : Nat) (g : Option Addr) (cap : Nat), e = .returned (.tuple #[.pointer (some ⟨q, 0, none⟩), .slice g xs.length cap, .int .i64 0]) ∧ w'.ownsRow w0.heap.size 39 38 (.slice g xs.length cap) xs.length (slsL xs) ∧ HG w0 w' p q xs xs.length room N X ∧ Kp w w'
theorem owns_slice {w : World} {B T sz n : Nat} {v : Value} {l : List Value} (h : w.ownsRow B T sz v n l) : ∃ g cap, v = .slice g n cap := by
  rcases h.2 with ⟨rfl, e⟩ | ⟨g, cap, cur, rfl, _⟩
  · exact ⟨none, 0, by rw [e]⟩
  · exact ⟨_, cap, rfl⟩
theorem open_found (h : HasD w0 w p D X) (ho : D.ops + 5 ≤ 1099511627776) {E : Dk} (hE : load D = (recsB xs, 0, E)) (g : Good E xs xs.length room N) :
    Calls Tryz.prog 7 #[.pointer (some ⟨p, 0, none⟩)] w fun e w' => FoundPost w0 w p xs room N X e w' := by
  refine (open_any h ho).mono ?_
  rintro e w' (⟨c, _⟩ | ⟨_, q, v, zs, n, rfl, rd, ok, own, hl, k⟩)
  · rw [hE] at c
    exact absurd rfl c
  · rw [hE] at rd hl
    obtain ⟨rfl, hn⟩ := read_back g.can rd
    obtain ⟨g', cap, rfl⟩ := owns_slice own
    simp only at hl
    rw [lgOf_read hn] at hl
    exact ⟨q, g', cap, rfl, own, ⟨_, hl, g⟩, k⟩
theorem open_new (h : HasD w0 w p (Dk.new room) X) (hr : 0 ≤ room ∧ room ≤ 4194304) :
    Calls Tryz.prog 7 #[.pointer (some ⟨p, 0, none⟩)] w fun e w' => FoundPost w0 w p [] room 3 X e w' := by
  obtain ⟨E, h3, h4⟩ := new_load hr
  exact open_found h (by simp [Dk.new]) h3 h4
theorem HG.len (h : HG w0 w p q xs j room N X) : Calls Tryz.prog 27 #[.pointer (some ⟨q, 0, none⟩)] w fun e w' => e = .returned (.int .i64 (xs.length : Int)) ∧ w = w' := by
  obtain ⟨D, h1, h2⟩ := h.is
  exact len_has h1
theorem HG.bytes (h : HG w0 w p q xs j room N X) : Calls Tryz.prog 29 #[.pointer (some ⟨q, 0, none⟩)] w fun e w' => e = .returned (.int .i64 ((recs xs).length : Int)) ∧ w = w' := by
  obtain ⟨D, h1, h2⟩ := h.is
  exact bytes_has h1
/-- the power goes, and comes -/
theorem off_has (h : HasD w0 w p D X) : Calls Tryz.prog 13 #[.pointer (some ⟨p, 0, none⟩)] w fun e w' => e = .returned (.tuple #[]) ∧ HasD w0 w' p D.offd X ∧ Kp w w' :=
  dframe h (R := fun e _ => e = .returned (.tuple #[])) fun X h => has_off h
theorem on1_has (h : HasD w0 w p D X) (x : Int) : Calls Tryz.prog 15 #[.pointer (some ⟨p, 0, none⟩), .slice (some ⟨w.heap.size, 0, none⟩) 1 1] (w.alloc (.cells #[.int .i64 x] 3)) fun e w' => e = .returned (.tuple #[]) ∧ HasD w0 w' p (D.on [x]) X ∧ Kp w w' :=
  (has_on1 (has_slips h) x).mono fun e w' ⟨r, h'⟩ => ⟨r, h'.less fun x hx => List.mem_append_right _ hx, kp_of h'⟩
theorem arm_has (h : HasL w0 w p q D L X) (ho : D.ops ≤ 1099511627776) (pos kind more : Int) (hm : more ≤ 9223372036854775807) :
    Calls Tryz.prog 11 #[.pointer (some ⟨p, 0, none⟩), .int .i64 pos, .int .i64 kind, .int .i64 more] w fun e w' => e = .returned (.tuple #[]) ∧ HasL w0 w' p q (D.arm pos kind more) L X ∧ Kp w w' :=
  h.frame (R := fun e _ => e = .returned (.tuple #[])) fun X h => (has_arm h.d ho pos kind more hm).mono fun e w' ⟨r, h'⟩ => ⟨r, h', h.hq, h.hx⟩
end
end Go.Proofs.YtdmgobffhpgjlaaGreat.Sl.Dg
