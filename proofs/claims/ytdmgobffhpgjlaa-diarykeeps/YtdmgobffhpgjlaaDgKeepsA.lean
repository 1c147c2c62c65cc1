/-
  Rows beside one another; operations of a drawn region that make memory. For the walk of DiaryKeeps.
-/
import Derived.Test.YtdmgobffhpgjlaaDgKeep
namespace Go.Proofs.Ytdmgobffhpgjlaa.Sl.Dg
open Go.RowKit Go.PlainAid Go.Proofs.Ytdmgobffhpgjlaa.Cr
open Go.Proofs.Ytdmgobffhpgjlaa.Pk (Bs Fi Dk kl HasD has_new KeepAt on_post)
set_option linter.unusedVariables false
set_option maxRecDepth 20000
set_option linter.unusedSimpArgs false

def xg : Sp := { Sp.zero with k := 5 }
theorem xg_can : Can xg := gone_can
theorem xg_okay : Okay xg := can_okay xg_can
/-- behind the loop -/
def KeepRel (w0 : World) (p q : Nat) (v : Value) (u : World) : Prop := ∃ D xs j k, HasL w0 u p q D (lgOf xs j k) [] ∧ Mild D xs j 1048576 1000 ∧ xs.length ≤ 60 ∧ u.ownsRow w0.heap.size 37 38 v xs.length (slsL xs)
/-- behind the look whether it is sick -/
def KeepRel2 (w0 : World) (p q : Nat) (fs : List Sp) (v : Value) (b : Value) (u : World) : Prop := b = .bool false ∧ HG w0 u p q fs fs.length 1048576 1006 [] ∧ u.ownsRow w0.heap.size 37 38 v fs.length (slsL fs)
/-- the rows that are there, ahead of M -/
structure KS (w0 z : World) (M B : Nat) (vf va : Value) (fs : List Sp) : Prop where
  x : At z B 37 (slV xg)
  f : z.ownsRow w0.heap.size 37 38 vf fs.length (slsL fs)
  a : z.ownsRow w0.heap.size 37 38 va (fs ++ [xg]).length (slsL (fs ++ [xg]))
  bel : Below w0.heap.size w0 z
  lt : B < M ∧ (∀ b, vf.ownBlock = some b → b < M) ∧ (∀ b, va.ownBlock = some b → b < M) ∧ w0.heap.size ≤ M ∧ M ≤ z.heap.size
section
variable {w0 z z' : World} {M B : Nat} {vf va : Value} {fs : List Sp}
theorem owns_grown {w w' : World} {N T sz n : Nat} {v : Value} {xs : List Value} {row : Option Nat} (h : w.ownsRow N T sz v n xs) (hg : w.grownBy w' row) (hv : ∀ b, v.ownBlock = some b → b < M) (hr : ∀ k, row = some k → M ≤ k) : w'.ownsRow N T sz v n xs := by
  refine h.kept hg ?_
  cases e : v.ownBlock with
  | none => exact .inl rfl
  | some b =>
    refine .inr fun e2 => ?_
    have := hv b e
    have := hr b e2.symm
    omega
theorem KS.below (h : KS w0 z M B vf va fs) (hb : Below z.heap.size z z') : KS w0 z' M B vf va fs :=
  ⟨h.x.old hb, owns_below h.f hb, owns_below h.a hb, h.bel.trans (hb.mono h.bel.size), h.lt.1, h.lt.2.1, h.lt.2.2.1, h.lt.2.2.2.1, Nat.le_trans h.lt.2.2.2.2 hb.size⟩
theorem KS.alloc (h : KS w0 z M B vf va fs) (o : Obj) : KS w0 (z.alloc o) M B vf va fs := h.below ((Below.refl _ _).alloc (Nat.le_refl _) o)
theorem KS.drew (h : KS w0 z M B vf va fs) : KS w0 z.drew M B vf va fs := h.below (Below.refl _ _).drew
theorem KS.grown (h : KS w0 z M B vf va fs) {row : Option Nat} (hg : z.grownBy z' row) (hr : ∀ k, row = some k → M ≤ k) : KS w0 z' M B vf va fs := by
  obtain ⟨l1, l2, l3, l4, l5⟩ := h.lt
  exact ⟨Dg.At.grown h.x hg fun k hk => by have := hr k hk; omega, owns_grown h.f hg l2 hr, owns_grown h.a hg l3 hr, h.bel.grown hg h.bel.size fun k hk => by have := hr k hk; omega, l1, l2, l3, l4, Nat.le_trans l5 hg.size⟩
end
section
variable {P : Program} {md : Region.Mode} {ops : Array Oper} {Q : Exit → Act → World → Prop} {S : World → Prop} {fuel : Nat} {listed : Array Bool} {a : Act} {w : World}
theorem held_two (i k : Nat) (hr : Region.ready md ops listed = [i, k])
    (h1 : ∀ K : Act → World → Prop, (∀ a w, S w → wpAnyH P md ops Q S fuel (listed.setIfInBounds i true) a w → K a w) → wpOp P ops Q i K a w)
    (h2 : ∀ K : Act → World → Prop, (∀ a w, S w → wpAnyH P md ops Q S fuel (listed.setIfInBounds k true) a w → K a w) → wpOp P ops Q k K a w) : wpAnyH P md ops Q S (fuel + 1) listed a w := by
  refine wpAnyH_all hr (by simp) ?_
  intro j hj
  rcases List.mem_cons.1 hj with rfl | hj
  · exact h1 _ fun _ _ hs h => ⟨hs, h⟩
  · simp at hj
    subst hj
    exact h2 _ fun _ _ hs h => ⟨hs, h⟩
end
section
variable {o : Oper} {a : Act} {w : World} {K : Act → World → Prop} {Q : Exit → Act → World → Prop} {x s : Operand} {t : Sp}
theorem op_built1 (ht : Okay t) (ho : o.op = .buildSlice 22 1 #[(0, x)]) (hx : a.eval x = .agg (slV t))
    (h : K (a.put o.dst (.slice (some ⟨w.heap.size, 0, none⟩) 1 1)) (w.alloc (.cells (slV t) 37))) : o.wp Try.prog a w K Q := by
  obtain ⟨i0, hi, hz0, hz1, hz2⟩ := info_parts infoSl
  refine wp_buildSlice 22 37 1 #[(0, x)] ho _ i0 (.agg #[.int .i64 0, .string ⟨#[]⟩, .string ⟨#[]⟩, .int .u8 0, .int .u8 0, .int .u8 0, .int .u8 0, .int .u8 0, .int .u8 0, .int .u8 0, .int .u8 0, .int .u8 0, .int .u8 0, .int .u8 0, .int .u8 0, .int .u8 0, .int .u8 0, .int .u8 0, .int .u8 0, .int .u8 0, .int .u8 0, .int .u8 0, .int .u8 0, .int .u8 0, .int .u8 0, .int .u8 0, .int .u8 0, .int .u8 0, .int .u8 0, .int .u8 0, .int .u8 0, .int .u8 0, .int .u8 0, .int .u8 0, .int .u8 0, .string ⟨#[]⟩, .int .i64 0, .int .i64 0]) Try.underlying22 hi hz0 (by rw [hz1]; decide) (by rw [hz1]; decide) ?_ h
  rw [hz1]
  have e : (#[(0, x)].map fun (i, x) => (i, a.eval x)).toList = (([Value.agg (slV t)].zipIdx 0).map fun x => (x.2, x.1)) := by
    simp [hx]
  rw [e, Great.fill_whole (s := 38) (by decide) [.agg (slV t)] _ (by intro v hv; simp at hv; subst hv; exact slV_size ht.dig.len) (by simp)]
  simp [Value.cells]
theorem op_append {M n m : Nat} {v : Value} {xs news : List Value} {ad : Addr} {c : Nat} (ho : o.op = .call { callee := .builtin .append, args := #[s, x], argTypes := #[22, 22] }) (hs : a.eval s = v) (own : w.ownsRow M 37 38 v n xs)
    (hx : a.eval x = .slice (some ad) m c) (hl : news.length = m * 38) (hn : ∀ j u, news[j]? = some u → w.cell? (ad.add j) = some u) (h1 : ∀ u ∈ news, u.oneCell' = true) (hb : n + m ≤ 1000) (hM : M ≤ w.heap.size)
    (h : ∀ v' w', w'.ownsRow M 37 38 v' (n + m) (xs ++ news) → w.grownBy w' v.ownBlock → K (a.put o.dst v') w') : o.wp Try.prog a w K Q := by
  obtain ⟨i0, hi, hz0, hz1, hz2⟩ := info_parts infoSl
  exact wp_append_own w s x 22 ho M 37 i0 (.agg #[.int .i64 0, .string ⟨#[]⟩, .string ⟨#[]⟩, .int .u8 0, .int .u8 0, .int .u8 0, .int .u8 0, .int .u8 0, .int .u8 0, .int .u8 0, .int .u8 0, .int .u8 0, .int .u8 0, .int .u8 0, .int .u8 0, .int .u8 0, .int .u8 0, .int .u8 0, .int .u8 0, .int .u8 0, .int .u8 0, .int .u8 0, .int .u8 0, .int .u8 0, .int .u8 0, .int .u8 0, .int .u8 0, .int .u8 0, .int .u8 0, .int .u8 0, .int .u8 0, .int .u8 0, .int .u8 0, .int .u8 0, .int .u8 0, .string ⟨#[]⟩, .int .i64 0, .int .i64 0]) 38 104 Try.underlying22 hi hz0 hz1 hz2 rfl (by decide) v n xs hs own ad m c news hx hl hn h1 (by unfold maxLen; omega) (by omega) hM fun v' w' a b _ => h v' w' a b
theorem op_append_none {M n : Nat} {v : Value} {xs : List Value} (ho : o.op = .call { callee := .builtin .append, args := #[s, x], argTypes := #[22, 22] }) (hs : a.eval s = v) (own : w.ownsRow M 37 38 v n xs)
    (hx : a.eval x = .slice none 0 0) (h : K (a.put o.dst v) w) : o.wp Try.prog a w K Q := by
  obtain ⟨i0, hi, hz0, hz1, hz2⟩ := info_parts infoSl
  have hrun := run_append_owned_none (P := Try.prog) (w := w) M 22 o.type 37 i0 38 Try.underlying22 hi v n xs own
  unfold Oper.wp
  simp [execOp, ho, resolve, invoke, builtin, hs, hx, hrun, Result.andThen]
  exact h
end
theorem slsL_one (fs : List Sp) : ∀ u ∈ slsL fs, u.oneCell' = true := by
  intro u hu
  simp only [slsL, List.mem_flatten, List.mem_map] at hu
  obtain ⟨l, ⟨x, _, rfl⟩, hu⟩ := hu
  exact slL_one x u hu
end Go.Proofs.Ytdmgobffhpgjlaa.Sl.Dg
