/-
  Rows of one and of two slips that are typed out; touch.
-/
import Derived.Test.YtdmgobffhpgjlaaGreatDgGood
namespace Go.Proofs.YtdmgobffhpgjlaaGreat.Sl.Dg
open Go.RowKit Go.PlainAid Go.Proofs.YtdmgobffhpgjlaaGreat.Cr
open Go.Proofs.YtdmgobffhpgjlaaGreat.Pk (Bs Fi Dk kl HasD)
set_option linter.unusedVariables false
set_option maxRecDepth 20000
set_option linter.unusedSimpArgs false

theorem slsL_len : ∀ {xs : List Sp}, (∀ x ∈ xs, Okay x) → (slsL xs).length = xs.length * 38
  | [], _ => rfl
  | x :: xs, h => by
    have h1 := slsL_len (xs := xs) fun y hy => h y (by simp [hy])
    have h2 := slL_len (h x (by simp)).dig.len
    simp only [slsL, List.map_cons, List.flatten_cons, List.length_append, List.length_cons] at h1 ⊢
    omega
theorem made_owns (w : World) {xs : List Sp} (ok : ∀ x ∈ xs, Okay x) (hl : xs.length ≤ 1000) {B : Nat} (hB : B ≤ w.heap.size) : (w.alloc (.cells (slsL xs).toArray 39)).ownsRow B 39 38 (.slice (some ⟨w.heap.size, 0, none⟩) xs.length xs.length) xs.length (slsL xs) :=
  ⟨slsL_len ok, .inr ⟨w.heap.size, xs.length, _, rfl, hB, heap_alloc_new w _, Nat.le_refl _, by unfold maxLen; omega, by simp [slsL_len ok], by rw [List.take_of_length_le]; simp [slsL_len ok]⟩⟩
theorem made_sls (w : World) {xs : List Sp} (ok : ∀ x ∈ xs, Okay x) (hl : xs.length ≤ 1000) : SlsAt (w.alloc (.cells (slsL xs).toArray 39)) (.slice (some ⟨w.heap.size, 0, none⟩) xs.length xs.length) xs :=
  owns_sls (made_owns w ok hl (Nat.le_refl _)) ok
section
variable {ops : Array Oper} {rest : List Oper} {o : Oper} {a : Act} {w : World} {Q : Exit → Act → World → Prop} {x y : Operand} {s t : Sp}
theorem wpl_built1 (hs : Okay s) (hw : Region.wanted o (yielded ops a.tmps) = true) (ho : o.op = .buildSlice 29 1 #[(0, x)]) (hx : a.eval x = .agg (slV s))
    (h : wpList Tryz.prog ops Q rest (a.put o.dst (.slice (some ⟨w.heap.size, 0, none⟩) 1 1)) (w.alloc (.cells (slsL [s]).toArray 39))) : wpList Tryz.prog ops Q (o :: rest) a w := by
  obtain ⟨i0, hi, hz0, hz1, hz2⟩ := info_parts infoSl
  refine wpList_step fun K hK => ?_
  rw [if_pos hw]
  refine wp_buildSlice 29 39 1 #[(0, x)] ho _ i0 (.agg #[.int .i64 0, .string ⟨#[]⟩, .string ⟨#[]⟩, .int .u8 0, .int .u8 0, .int .u8 0, .int .u8 0, .int .u8 0, .int .u8 0, .int .u8 0, .int .u8 0, .int .u8 0, .int .u8 0, .int .u8 0, .int .u8 0, .int .u8 0, .int .u8 0, .int .u8 0, .int .u8 0, .int .u8 0, .int .u8 0, .int .u8 0, .int .u8 0, .int .u8 0, .int .u8 0, .int .u8 0, .int .u8 0, .int .u8 0, .int .u8 0, .int .u8 0, .int .u8 0, .int .u8 0, .int .u8 0, .int .u8 0, .int .u8 0, .string ⟨#[]⟩, .int .i64 0, .int .i64 0]) Tryz.underlying29 hi hz0 (by rw [hz1]; decide) (by rw [hz1]; decide) ?_ (hK _ _ h)
  rw [hz1]
  have e : (#[(0, x)].map fun (i, x) => (i, a.eval x)).toList = (([Value.agg (slV s)].zipIdx 0).map fun x => (x.2, x.1)) := by
    simp [hx]
  rw [e, Great.fill_whole (s := 38) (by decide) [.agg (slV s)] _ (by intro v hv; simp at hv; subst hv; exact slV_size hs.dig.len) (by simp)]
  simp [Value.cells, slsL, slV]
theorem wpl_built2 (hs : Okay s) (ht : Okay t) (hw : Region.wanted o (yielded ops a.tmps) = true) (ho : o.op = .buildSlice 29 2 #[(0, x), (1, y)]) (hx : a.eval x = .agg (slV s)) (hy : a.eval y = .agg (slV t))
    (h : wpList Tryz.prog ops Q rest (a.put o.dst (.slice (some ⟨w.heap.size, 0, none⟩) 2 2)) (w.alloc (.cells (slsL [s, t]).toArray 39))) : wpList Tryz.prog ops Q (o :: rest) a w := by
  obtain ⟨i0, hi, hz0, hz1, hz2⟩ := info_parts infoSl
  refine wpList_step fun K hK => ?_
  rw [if_pos hw]
  refine wp_buildSlice 29 39 2 #[(0, x), (1, y)] ho _ i0 (.agg #[.int .i64 0, .string ⟨#[]⟩, .string ⟨#[]⟩, .int .u8 0, .int .u8 0, .int .u8 0, .int .u8 0, .int .u8 0, .int .u8 0, .int .u8 0, .int .u8 0, .int .u8 0, .int .u8 0, .int .u8 0, .int .u8 0, .int .u8 0, .int .u8 0, .int .u8 0, .int .u8 0, .int .u8 0, .int .u8 0, .int .u8 0, .int .u8 0, .int .u8 0, .int .u8 0, .int .u8 0, .int .u8 0, .int .u8 0, .int .u8 0, .int .u8 0, .int .u8 0, .int .u8 0, .int .u8 0, .int .u8 0, .int .u8 0, .string ⟨#[]⟩, .int .i64 0, .int .i64 0]) Tryz.underlying29 hi hz0 (by rw [hz1]; decide) (by rw [hz1]; decide) ?_ (hK _ _ h)
  rw [hz1]
  have e : (#[(0, x), (1, y)].map fun (i, x) => (i, a.eval x)).toList = (([Value.agg (slV s), .agg (slV t)].zipIdx 0).map fun x => (x.2, x.1)) := by
    simp [hx, hy]
  rw [e, Great.fill_whole (s := 38) (by decide) [.agg (slV s), .agg (slV t)] _ (by intro v hv; simp at hv; rcases hv with rfl | rfl; exact slV_size hs.dig.len; exact slV_size ht.dig.len) (by simp)]
  simp [Value.cells, slsL, slV]
end

/-! ### touch -/
def tch (n : Nat) : Sp := ⟨6, none8, none8, n :: List.replicate 31 0, none8, 0, 0⟩
theorem tch_dig {n : Nat} (h : n < 256) : Dig (n :: List.replicate 31 0) := ⟨by simp, by intro b hb; simp at hb; omega⟩
theorem tch_can {n : Nat} (h : n < 256) : Can (tch n) := ⟨by simp [tch], by simp [tch, hT], fun _ => ⟨rfl, rfl⟩, by simp [tch, hD], fun _ => ⟨rfl, rfl⟩, fun _ => rfl, by first | decide | (simp [tch]; done) | (simp [tch]; decide), by first | decide | (simp [tch]; done) | (simp [tch]; decide), by first | decide | (simp [tch]; done) | (simp [tch]; decide), tch_dig h⟩
theorem tch_len (n : Nat) : (recL (bodyL (tch n))).length = 39 := by
  rw [rec_len]
  simp [bodyL, tch, be, be_len, pT, pD, pM, pA, hT, hD, hM, hA]
set_option maxHeartbeats 4000000 in
theorem touch_any (n : Nat) (w : World) (hn : n = 1 ∨ n = 2 ∨ n = 3 ∨ n = 4 ∨ n = 7) :
    Calls Tryz.prog 35 #[.int .i64 (n : Int)] w fun e w' => e = .returned (.agg (slV (tch n))) ∧ Below w.heap.size w w' := by
  have hd : (tch n).dig.length = 32 := by simp [tch]
  obtain ⟨X, S1, A1, F1, _⟩ := x_keep w hd
  have R : ∀ f : Func, f = Tryz.f35 → ∀ tmps : Array Value, tmps.getD 2 undef = .pointer (some ⟨w.heap.size, 0, none⟩) → (results f tmps).run Tryz.prog X = .ok (.agg (slV (tch n))) X := fun f hf tmps ht => by
    subst hf
    exact results_cell_row Tryz.results35 _ _ w.heap.size 39 (slV (tch n)) (0, 0) _ ht A1.heap Tryz.underlying39 rfl (by rw [slV_size hd]; kernel_rfl)
  have HR := Lib.hid R
  clear R A1
  rcases hn with rfl | rfl | rfl | rfl | rfl
  all_goals
    go_enter Tryz.func35, Tryz.ntmps35
    go_wp2_with (refine wpl_store S1 rfl rfl rfl rfl rfl ?_)
    exact bodyPost_ret (HR.out _ rfl _ rfl) rfl ⟨rfl, F1⟩
end Go.Proofs.YtdmgobffhpgjlaaGreat.Sl.Dg
