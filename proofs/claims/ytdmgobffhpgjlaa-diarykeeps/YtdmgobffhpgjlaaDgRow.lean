/-
  A row of slips of a law's own grows beside its log; faults that are armed.
-/
import Derived.Test.YtdmgobffhpgjlaaDgGreat
namespace Go.Proofs.Ytdmgobffhpgjlaa.Sl.Dg
open Go.RowKit Go.PlainAid Go.Proofs.Ytdmgobffhpgjlaa.Cr
open Go.Proofs.Ytdmgobffhpgjlaa.Pk (Bs Fi Dk kl HasD zone)
set_option linter.unusedVariables false
set_option maxRecDepth 20000
set_option linter.unusedSimpArgs false

section
variable {w0 w w' : World} {p q : Nat} {D D' : Dk} {L L' : Lg} {X : List (Nat × Obj)} {xs : List Sp} {j : Nat} {room N : Int}
theorem HasL.grown (h : HasL w0 w p q D L []) {row : Option Nat} (hg : w.grownBy w' row) (hr : ∀ k, row = some k → w0.heap.size ≤ k ∧ ∃ c fr, w.heap[k]? = some (.cells c 37 fr)) : HasL w0 w' p q D L [] := by
  obtain ⟨m, G, hd, z, hX⟩ := h.d.is
  have hq := hX _ (List.mem_cons_self ..)
  have nq : some q ≠ row := fun e => by
    obtain ⟨c, fr, hc⟩ := (hr q e.symm).2
    have := h.at.heap
    rw [hc] at this
    injection this with this
    injection this with _ this
    exact absurd this (by decide)
  have nz : ∀ b, zone p m G D.L b → some b ≠ row := fun b hb e => by
    obtain ⟨c, fr, hc⟩ := (hr b e.symm).2
    exact zone_type hd hc (by decide) (by decide) (by decide) hb
  refine ⟨⟨⟨m, G, hd.kept fun b hb => hg.block b (hd.lt hb) (nz b hb), z, fun x hx => ?_⟩, h.d.below.trans ⟨hg.os, hg.tape, hg.output, hg.size, fun b hb => hg.block b (Nat.lt_of_lt_of_le hb h.below.size) fun e => ?_⟩⟩, h.hq, by simp⟩
  · simp at hx
    subst hx
    exact ⟨by rw [hg.block q h.lt nq]; exact hq.1, hq.2⟩
  · have := (hr b e.symm).1
    omega
theorem owns_row {B n sz : Nat} {v : Value} {l : List Value} (h : w.ownsRow B 37 sz v n l) (hB : w0.heap.size ≤ B) : ∀ k, v.ownBlock = some k → w0.heap.size ≤ k ∧ ∃ c fr, w.heap[k]? = some (.cells c 37 fr) := by
  intro k hk
  rcases h.2 with ⟨rfl, _⟩ | ⟨g, cap, cur, rfl, hb, hg, _⟩
  · simp [Value.ownBlock] at hk
  · simp [Value.ownBlock] at hk
    subst hk
    exact ⟨Nat.le_trans hB hb, cur, _, hg⟩
theorem HG.grown (h : HG w0 w p q xs j room N []) {row : Option Nat} (hg : w.grownBy w' row) (hr : ∀ k, row = some k → w0.heap.size ≤ k ∧ ∃ c fr, w.heap[k]? = some (.cells c 37 fr)) : HG w0 w' p q xs j room N [] := by
  obtain ⟨D, h1, h2⟩ := h.is
  exact ⟨D, h1.grown hg hr, h2⟩
/-- a slip of the law's own, below its rows -/
theorem At.grown {B T : Nat} {cs : Array Value} (h : At w B T cs) {row : Option Nat} (hg : w.grownBy w' row) (hr : ∀ k, row = some k → B < k) : At w' B T cs := by
  refine h.same (hg.block B h.lt fun e => ?_)
  have := hr B e.symm
  omega
/-- another log of the same disk was opened -/
theorem HG.other {q2 : Nat} (h : HG w0 w p q2 xs j room N [(q, dob p L)]) (hq : w0.heap.size ≤ q) : ∃ D, HasL w0 w p q D L [] ∧ Good D xs j room N := by
  obtain ⟨D, h1, h2⟩ := h.is
  exact ⟨D, ⟨h1.d.less fun x hx => List.mem_cons_of_mem _ hx, hq, by simp⟩, h2⟩
end

/-- a disk of the law's own: what was there stays -/
theorem dnew (w0 : World) {w : World} (hb : Below w0.heap.size w0 w) (room : Int) :
    Calls Try.prog 7 #[.int .i64 room] w fun e w' => ∃ p, e = .returned (.pointer (some ⟨p, 0, none⟩)) ∧ HasD w0 w' p (Dk.new room) [] ∧ Below w.heap.size w w' := by
  refine (Pk.has_new w (Below.refl _ _) room).mono ?_
  rintro e w' ⟨p, rfl, h⟩
  obtain ⟨m, G, hd, hz, hX⟩ := h.is
  exact ⟨p, rfl, ⟨⟨m, G, hd, fun b z => Nat.le_trans hb.size (hz b z), by simp⟩, hb.trans (h.below.mono hb.size)⟩, h.below⟩

/-! ### faults -/
section
variable {D : Dk} {xs : List Sp} {j : Nat} {room N : Int}
theorem arm_io (D : Dk) (n : Int) (hn : 1 ≤ n ∧ n ≤ 1000) : D.arm n 1 0 = { D with kd := 1, fa := D.ops + n, fm := 0 } := by
  unfold Dk.arm
  rw [if_neg (by omega)]
  rfl
theorem beg_io {E : Dk} (ho : E.off = false) (hk : E.kd = 1) (hf : E.fa = E.ops + 1) (hm : E.fm = 0) : E.beg true = (11, { E with ops := E.ops + 1 }) := by
  unfold Dk.beg
  rw [if_neg (by simp), if_neg (by rw [ho]; simp)]
  unfold Dk.fail
  simp only
  rw [if_neg (by omega), if_pos hk]
theorem beg_io2 {E : Dk} (ho : E.off = false) (hf : E.ops + 1 < E.fa) : E.beg true = (0, { E with ops := E.ops + 1 }) := by
  unfold Dk.beg
  rw [if_neg (by simp), if_neg (by rw [ho]; simp)]
  unfold Dk.fail
  simp only
  rw [if_pos (.inr (.inl (by omega)))]
/-- the next operation fails -/
theorem sick_add (h : Good D xs j room N) {x : Sp} (hx : Can x) : ∃ E, addL (D.arm 1 1 0) (lgOf xs j false) x = (11, E, lgOf xs j true) ∧ Good E xs j room (N + 1) := by
  have hb := beg_io (E := { D with kd := 1, fa := D.ops + 1, fm := 0 }) h.calm.off rfl rfl rfl
  have h1 : (D.arm 1 1 0).append dN (recB x) = (11, { D with kd := 1, fa := D.ops + 1, fm := 0, ops := D.ops + 1 }) := by
    rw [arm_io D 1 (by decide)]
    unfold Dk.append
    rw [dN_name, hb]
    simp
  refine ⟨{ D with kd := 1, fa := D.ops + 1, fm := 0, ops := D.ops + 1 }, by rw [addL_fail rfl hx (by rw [h1]; simp), h1]; rfl, ⟨h.l, h.j, h.r, ?_, h.can⟩, ⟨h.calm.off, .inr (by simp only; omega)⟩⟩
  have := h.n
  simp only
  omega
/-- the operation behind the next one fails: what was to become the log stays behind -/
theorem sick_rew (h : Good D xs j room N) {y : Sp} (hy : Can y) (L : Lg) : ∃ E F, rewL (D.arm 2 1 0) L [y] = (11, E, L) ∧ load E = (recsB xs, 0, F) ∧ Good F xs xs.length room (N + 5) ∧ E.ops ≤ N + 2 := by
  have hn := h.n
  have hL := h.l
  have b1 := beg_io2 (E := { D with kd := 1, fa := D.ops + 2, fm := 0 }) h.calm.off (by simp only; omega)
  have b2 := beg_io (E := { D with kd := 1, fa := D.ops + 2, fm := 0, ops := D.ops + 1, L := twoD (recsB xs) (recs (xs.take j)).length [] 0 }) h.calm.off rfl (by simp only; omega) rfl
  have h2 : ({ D with kd := 1, fa := D.ops + 2, fm := 0 } : Dk).create nN = (0, { D with kd := 1, fa := D.ops + 2, fm := 0, ops := D.ops + 1, L := twoD (recsB xs) (recs (xs.take j)).length [] 0 }) := by
    unfold Dk.create
    rw [nN_name, b1]
    simp only
    rw [if_neg (by simp), hL, get_n1, if_neg (by simp), if_neg (by simp [oneD]), ins_n1]
  have hne : recsB [y] ≠ [] := by
    intro e
    have := congrArg List.length e
    rw [recsB_len, recs_one, rec_len] at this
    simp at this
  have h3 : fill { D with kd := 1, fa := D.ops + 2, fm := 0, ops := D.ops + 1, L := twoD (recsB xs) (recs (xs.take j)).length [] 0 } (recsB [y]) = (11, { D with kd := 1, fa := D.ops + 2, fm := 0, ops := D.ops + 1 + 1, L := twoD (recsB xs) (recs (xs.take j)).length [] 0 }) := by
    rw [fill_yes hne]
    unfold Dk.append
    rw [nN_name, b2]
    simp
  have h1 : repl (D.arm 2 1 0) (recsB [y]) = (11, { D with kd := 1, fa := D.ops + 2, fm := 0, ops := D.ops + 1 + 1, L := twoD (recsB xs) (recs (xs.take j)).length [] 0 }) := by
    rw [arm_io D 2 (by decide)]
    have hd : disc { D with kd := 1, fa := D.ops + 2, fm := 0 } = (0, { D with kd := 1, fa := D.ops + 2, fm := 0 }) := disc_one (D := { D with kd := 1, fa := D.ops + 2, fm := 0 }) hL
    rw [repl3 (by rw [hd]) (by rw [hd]; simp only; rw [h2]) (by rw [hd]; simp only; rw [h2]; simp only; rw [h3]; simp), hd]
    simp only
    rw [h2]
    exact h3
  have hc : Calm { D with kd := 1, fa := D.ops + 2, fm := 0, ops := D.ops + 1 + 1, L := twoD (recsB xs) (recs (xs.take j)).length [] 0 } := ⟨h.calm.off, .inr (by simp only; omega)⟩
  refine ⟨{ D with kd := 1, fa := D.ops + 2, fm := 0, ops := D.ops + 1 + 1, L := twoD (recsB xs) (recs (xs.take j)).length [] 0 }, { D with kd := 1, fa := D.ops + 2, fm := 0, ops := D.ops + 1 + 1 + 3, L := oneD (recsB xs) (recsB xs).length }, by rw [rewL_fail (allCan.2 (by intro z hz; simp at hz; subst hz; exact hy)) (by rw [h1]; simp), h1], load_two hc rfl, ⟨⟨by rw [take_all, recsB_len], Nat.le_refl _, h.r, by simp only; omega, h.can⟩, hc.tick 3 _⟩, by simp only; omega⟩
end
end Go.Proofs.Ytdmgobffhpgjlaa.Sl.Dg
