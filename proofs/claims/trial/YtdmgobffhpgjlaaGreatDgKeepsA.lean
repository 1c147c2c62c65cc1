/-
  Rows beside one another; operations of a drawn region that make memory. For the walk of DiaryKeeps.
-/
import Derived.Test.YtdmgobffhpgjlaaGreatDgBack
import Derived.Laws.AppendOwnNone
namespace Go.Proofs.YtdmgobffhpgjlaaGreat.Sl.Dg
open Go.RowKit Go.PlainAid Go.Proofs.YtdmgobffhpgjlaaGreat.Cr
open Go.Proofs.YtdmgobffhpgjlaaGreat.Pk (Bs Fi Dk kl HasD has_new KeepAt on_post)
set_option linter.unusedVariables false
set_option maxRecDepth 20000
set_option linter.unusedSimpArgs false

def xg : Sp := { Sp.zero with k := 5 }
/-- the rows that are there, ahead of M -/
structure KS (w0 z : World) (M B : Nat) (vf va : Value) (fs : List Sp) : Prop where
  x : At z B 39 (slV xg)
  f : z.ownsRow w0.heap.size 39 38 vf fs.length (slsL fs)
  a : z.ownsRow w0.heap.size 39 38 va (fs ++ [xg]).length (slsL (fs ++ [xg]))
  bel : Below w0.heap.size w0 z
  lt : B < M ∧ (∀ b, vf.ownBlock = some b → b < M) ∧ (∀ b, va.ownBlock = some b → b < M) ∧ w0.heap.size ≤ M ∧ M ≤ z.heap.size
section
variable {w0 z z' : World} {M B : Nat} {vf va : Value} {fs : List Sp}
theorem owns_grown {w w' : World} {N T sz n : Nat} {v : Value} {xs : List Value} {row : Option Nat} (h : w.ownsRow N T sz v n xs) (hg : w.grownBy w' row) (hv : ∀ b, v.ownBlock = some b → b < M) (hr : ∀ k, row = some k → M ≤ k) : w'.ownsRow N T sz v n xs := by
  refine h.kept hg ?_
  cases e : v.ownBlock with
  | none => exact .inl rfl
  | some b =>
    refine .inr fun e2 => ?_
    have := hv b e
    have := hr b e2.symm
    omega
theorem KS.below (h : KS w0 z M B vf va fs) (hb : Below z.heap.size z z') : KS w0 z' M B vf va fs :=
  ⟨h.x.old hb, owns_below h.f hb, owns_below h.a hb, h.bel.trans (hb.mono h.bel.size), h.lt.1, h.lt.2.1, h.lt.2.2.1, h.lt.2.2.2.1, Nat.le_trans h.lt.2.2.2.2 hb.size⟩
theorem KS.alloc (h : KS w0 z M B vf va fs) (o : Obj) : KS w0 (z.alloc o) M B vf va fs := h.below ((Below.refl _ _).alloc (Nat.le_refl _) o)
theorem KS.drew (h : KS w0 z M B vf va fs) : KS w0 z.drew M B vf va fs := h.below (Below.refl _ _).drew
theorem KS.grown (h : KS w0 z M B vf va fs) {row : Option Nat} (hg : z.grownBy z' row) (hr : ∀ k, row = some k → M ≤ k) : KS w0 z' M B vf va fs := by
  obtain ⟨l1, l2, l3, l4, l5⟩ := h.lt
  exact ⟨Dg.At.grown h.x hg fun k hk => by have := hr k hk; omega, owns_grown h.f hg l2 hr, owns_grown h.a hg l3 hr, h.bel.grown hg h.bel.size fun k hk => by have := hr k hk; omega, l1, l2, l3, l4, Nat.le_trans l5 hg.size⟩
end
section
variable {P : Program} {md : Region.Mode} {ops : Array Oper} {Q : Exit → Act → World → Prop} {S : World → Prop} {fuel : Nat} {listed : Array Bool} {a : Act} {w : World}
theorem held_two (i k : Nat) (hr : Region.ready md ops listed = [i, k])
    (h1 : ∀ K : Act → World → Prop, (∀ a w, S w → wpAnyH P md ops Q S fuel (listed.setIfInBounds i true) a w → K a w) → wpOp P ops Q i K a w)
    (h2 : ∀ K : Act → World → Prop, (∀ a w, S w → wpAnyH P md ops Q S fuel (listed.setIfInBounds k true) a w → K a w) → wpOp P ops Q k K a w) : wpAnyH P md ops Q S (fuel + 1) listed a w := by
  refine wpAnyH_all hr (by simp) ?_
  intro j hj
  rcases List.mem_cons.1 hj with rfl | hj
  · exact h1 _ fun _ _ hs h => ⟨hs, h⟩
  · simp at hj
    subst hj
    exact h2 _ fun _ _ hs h => ⟨hs, h⟩
end
section
variable {o : Oper} {a : Act} {w : World} {K : Act → World → Prop} {Q : Exit → Act → World → Prop} {x s : Operand} {t : Sp}
theorem op_built1 (ht : Okay t) (ho : o.op = .buildSlice 29 1 #[(0, x)]) (hx : a.eval x = .agg (slV t))
    (h : K (a.put o.dst (.slice (some ⟨w.heap.size, 0, none⟩) 1 1)) (w.alloc (.cells (slV t) 39))) : o.wp Tryz.prog a w K Q := by
  obtain ⟨i0, hi, hz0, hz1, hz2⟩ := info_parts infoSl
  refine wp_buildSlice 29 39 1 #[(0, x)] ho _ i0 (.agg #[.int .i64 0, .string ⟨#[]⟩, .string ⟨#[]⟩, .int .u8 0, .int .u8 0, .int .u8 0, .int .u8 0, .int .u8 0, .int .u8 0, .int .u8 0, .int .u8 0, .int .u8 0, .int .u8 0, .int .u8 0, .int .u8 0, .int .u8 0, .int .u8 0, .int .u8 0, .int .u8 0, .int .u8 0, .int .u8 0, .int .u8 0, .int .u8 0, .int .u8 0, .int .u8 0, .int .u8 0, .int .u8 0, .int .u8 0, .int .u8 0, .int .u8 0, .int .u8 0, .int .u8 0, .int .u8 0, .int .u8 0, .int .u8 0, .string ⟨#[]⟩, .int .i64 0, .int .i64 0]) Tryz.underlying29 hi hz0 (by rw [hz1]; decide) (by rw [hz1]; decide) ?_ h
  rw [hz1]
  have e : (#[(0, x)].map fun (i, x) => (i, a.eval x)).toList = (([Value.agg (slV t)].zipIdx 0).map fun x => (x.2, x.1)) := by
    simp [hx]
  rw [e, Great.fill_whole (s := 38) (by decide) [.agg (slV t)] _ (by intro v hv; simp at hv; subst hv; exact slV_size ht.dig.len) (by simp)]
  simp [Value.cells]
theorem op_append_none {M n : Nat} {v : Value} {xs : List Value} (ho : o.op = .call { callee := .builtin .append, args := #[s, x], argTypes := #[29, 29] }) (hs : a.eval s = v) (own : w.ownsRow M 39 38 v n xs)
    (hx : a.eval x = .slice none 0 0) (h : K (a.put o.dst v) w) : o.wp Tryz.prog a w K Q := by
  obtain ⟨i0, hi, hz0, hz1, hz2⟩ := info_parts infoSl
  have hrun := run_append_owned_none (P := Tryz.prog) (w := w) M 29 o.type 39 i0 38 Tryz.underlying29 hi v n xs own
  unfold Oper.wp
  simp [execOp, ho, resolve, invoke, builtin, hs, hx, hrun, Result.andThen]
  exact h
end
theorem slsL_one (fs : List Sp) : ∀ u ∈ slsL fs, u.oneCell' = true := by
  intro u hu
  simp only [slsL, List.mem_flatten, List.mem_map] at hu
  obtain ⟨l, ⟨x, _, rfl⟩, hu⟩ := hu
  exact slL_one x u hu
end Go.Proofs.YtdmgobffhpgjlaaGreat.Sl.Dg
