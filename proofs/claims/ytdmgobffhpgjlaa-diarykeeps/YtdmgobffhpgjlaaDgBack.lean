/-
  A log that is written anew while the power may go: what is found then. No program text but in the last lines.
-/
import Derived.Test.YtdmgobffhpgjlaaDgInts
namespace Go.Proofs.Ytdmgobffhpgjlaa.Sl.Dg
open Go.RowKit Go.PlainAid Go.Proofs.Ytdmgobffhpgjlaa.Cr
open Go.Proofs.Ytdmgobffhpgjlaa.Pk (Bs Fi Dk kl HasD has_new KeepAt on_post)
set_option linter.unusedVariables false
set_option maxRecDepth 20000
set_option linter.unusedSimpArgs false

section
variable {D : Dk} {xs ys : List Sp} {j : Nat} {room N : Int}
theorem size_new (h : Good D xs j room N) : D.size nN = -1 := by
  unfold Dk.size
  rw [h.l, get_n1]
/-- a Rewrite on a disk that may fail, then a loss of power, then Open: all of the new slips, or all of the old ones -/
theorem rew_back (h : Mild D xs xs.length room N) (hl : xs.length ≤ 100) (hy : ∀ y ∈ ys, Can y) (hm : ys.length ≤ 100) (hr : 131072 ≤ room) (L : Lg) (ks : List Int) :
    ∃ e E M zs F rm, rewL D L ys = (e, E, M) ∧ load (E.offd.on ks) = (recsB zs, 0, F) ∧ Good F zs zs.length rm (N + 8) ∧ (E.offd.on ks).ops ≤ N + 5 ∧ (e = 0 ∧ zs = ys ∨ e ≠ 0 ∧ e ≠ 1 ∧ zs = xs) := by
  have ho := repl_ops D (recsB ys)
  have hn := h.n
  have hA := allCan.2 hy
  have hl1 : D.L = oneD (recsB xs) (recsB xs).length := by rw [h.l, take_all, recsB_len]
  rcases repl_may (s := recsB ys) hl1 (by rw [h.r]; exact rooms_ok h.can hl hy hm hr) with ⟨e0, l0⟩ | ⟨e0, e1, l0⟩
  · have m : Mild (repl D (recsB ys)).2 ys ys.length (repl D (recsB ys)).2.room (N + 5) := ⟨by rw [l0, take_all, recsB_len], Nat.le_refl _, rfl, by omega, hy⟩
    have g := good_on m ks
    obtain ⟨F, h1, h2⟩ := good_load g
    have := g.n
    exact ⟨0, _, _, ys, F, _, rewL_ok hA e0, h1, h2.up (by omega), this, .inl ⟨rfl, rfl⟩⟩
  · have hO := on_old (ks := ks) rfl l0
    obtain ⟨r1, r2⟩ := on_room (repl D (recsB ys)).2 ks
    obtain ⟨k, hk, h1⟩ := load_old (on_calm (repl D (recsB ys)).2 ks) hO
    have hc := (on_calm (repl D (recsB ys)).2 ks).tick k (oneD (recsB xs) (recsB xs).length)
    exact ⟨_, _, _, xs, _, _, rewL_fail hA e0, h1, ⟨⟨by rw [take_all, recsB_len], Nat.le_refl _, rfl, by simp only; omega, h.can⟩, hc⟩, by omega, .inr ⟨e0, e1, rfl⟩⟩
end
section
variable {w0 w w' : World} {p q : Nat} {D D' : Dk} {L L' : Lg} {X : List (Nat × Obj)} {xs : List Sp} {j : Nat} {room N : Int}
theorem arm_any (h : HasL w0 w p q D L X) (g : Mild D xs j room N) (hN : N ≤ 1000000) (pos kind more : Int) (hm : more ≤ 9223372036854775807) :
    Calls Try.prog 9 #[.pointer (some ⟨p, 0, none⟩), .int .i64 pos, .int .i64 kind, .int .i64 more] w fun e w' => e = .returned (.tuple #[]) ∧ (∃ E, HasL w0 w' p q E L X ∧ Mild E xs j room N) ∧ Kp w w' := by
  have := g.n
  exact (arm_has h (by omega) pos kind more hm).mono fun e w' ⟨a, b, c⟩ => ⟨a, ⟨_, b, arm_mild g pos kind more⟩, c⟩
theorem HG.new (h : HG w0 w p q xs j room N X) : Calls Try.prog 21 #[.pointer (some ⟨p, 0, none⟩), .string nS] w fun e w' => e = .returned (.int .i64 (-1)) ∧ w = w' := by
  obtain ⟨D, h1, h2⟩ := h.is
  have C := Pk.has_size h1.d (s := nS) (by decide)
  rw [kl_nS, size_new h2] at C
  exact C
end
end Go.Proofs.Ytdmgobffhpgjlaa.Sl.Dg
