/-
  ShaParts walked: of every text and two numbers the law answers true, where the tables lie as the program's text lays them.
-/
import Derived.Test.YtmnkhcefdpcheaaDoorShNone
import Derived.OrdersHeld
namespace Go.Proofs.YtmnkhcefdpcheaaDoor.Sh
open Go.RowKit Go.PlainAid
set_option linter.unusedVariables false

theorem w64 {x : Int} (h0 : 0 ≤ x) (h1 : x ≤ 1000000) : wrap64 x = x := by rw [← i64_is]; exact IntWalk.i64_in _ (by omega)
theorem cut_num (x : Int) (n : Nat) : ∃ k : Nat, (IntKind.u64.wrap x).tmod ((n : Int) + 1) = (k : Int) ∧ k ≤ n := by
  have h0 : 0 ≤ IntKind.u64.wrap x := wrap_u64_nonneg x
  rw [Int.tmod_eq_emod_of_nonneg h0]
  have h1 := Int.emod_nonneg (IntKind.u64.wrap x) (show ((n : Int) + 1) ≠ 0 by omega)
  have h2 := Int.emod_lt_of_pos (IntKind.u64.wrap x) (show 0 < (n : Int) + 1 by omega)
  exact ⟨(IntKind.u64.wrap x % ((n : Int) + 1)).toNat, by omega, by omega⟩
theorem cut_two (x y : Int) (n : Nat) (hn : n ≤ 16384) : ∃ k d : Nat, k ≤ n ∧ 0 < d ∧ d ≤ 100 ∧ wrap64 ((IntKind.u64.wrap x).tmod ((n : Int) + 1)) = (k : Int) ∧ wrap64 (1 + wrap64 ((IntKind.u64.wrap y).tmod 100)) = (d : Int) := by
  obtain ⟨k, hk, hkl⟩ := cut_num x n
  obtain ⟨m, hm, hml⟩ := cut_num y 99
  rw [show ((99 : Nat) : Int) + 1 = 100 by decide] at hm
  refine ⟨k, m + 1, hkl, Nat.succ_pos _, Nat.succ_le_succ hml, ?_, ?_⟩
  · rw [hk]; clear hk hm; exact w64 (by omega) (by omega)
  · rw [hm]; clear hk hm; rw [w64 (x := (m : Int)) (by omega) (by omega), w64 (x := 1 + (m : Int)) (by omega) (by omega)]; omega
theorem bl_sub (s : ByteArray) (i j : Nat) (h : i ≤ j) : bl (s.extract i j) = ((bl s).drop i).take (j - i) := by
  unfold bl
  rw [ByteArray.data_extract, Array.toList_extract, List.map_take, List.map_drop]
theorem take_more (l : List Nat) (i d j : Nat) (hj : j = min (i + d) l.length) (hi : i ≤ l.length) : l.take i ++ (l.drop i).take (j - i) = l.take (i + d) := by
  subst hj
  rw [List.take_add, List.append_cancel_left_eq]
  by_cases h : i + d ≤ l.length
  · rw [show min (i + d) l.length - i = d by omega]
  · rw [List.take_of_length_le (by simp; omega), List.take_of_length_le (by simp; omega)]

/-- what the call holds in memory when all is written -/
structure PInv (w wr : World) (s : ByteArray) (k H A C V1 V2 : Nat) : Prop where
  h : ∃ blk, ShaIs wr H (bl s) blk
  a : ∃ blk, ShaIs wr A ((bl s).take k) blk
  c : ∃ blk, ShaIs wr C (bl s) blk
  half : Blk wr V1 .u8 23 (shaD ((bl s).take k))
  whole : Blk wr V2 .u8 23 (shaD (bl s))
  bel : Below w.heap.size w wr
theorem PInv.below {w wr w' : World} {s : ByteArray} {k H A C V1 V2 : Nat} (i : PInv w wr s k H A C V1 V2) (hb : Below wr.heap.size wr w') : PInv w w' s k H A C V1 V2 := by
  obtain ⟨b1, h⟩ := i.h
  obtain ⟨b2, a⟩ := i.a
  obtain ⟨b3, c⟩ := i.c
  exact ⟨⟨b1, h.same (hb.block _ h.at_.lt)⟩, ⟨b2, a.same (hb.block _ a.at_.lt)⟩, ⟨b3, c.same (hb.block _ c.at_.lt)⟩, i.half.below hb i.half.lt, i.whole.below hb i.whole.lt, i.bel.trans (hb.mono i.bel.size)⟩
theorem PInv.drew {w wr : World} {s : ByteArray} {k H A C V1 V2 : Nat} (i : PInv w wr s k H A C V1 V2) : PInv w wr.drew s k H A C V1 V2 := i.below ((Below.refl _ _).drew)

section
variable {P : Program} {md : Region.Mode} {ops : Array Oper} {Q : Exit → Act → World → Prop} {S : World → Prop} {i fuel : Nat} {listed : Array Bool} {a : Act} {w : World} {oi : Oper}
theorem held_take (i : Nat) (v : Value) (hi : ops[i]? = some oi) (hs : Region.noSelect ops = true) (hf : Region.free md ops listed i = true) (hr : (Region.ready md ops listed).contains i = true)
    (hQ : ∀ c a w, Q (.panic c) (a.put oi.dst v) w → Q (.panic c) a w) (hy : YieldsIf P ops S oi v a) (hS : S w)
    (h : ∀ K : Act → World → Prop, (∀ a w, wpAnyH P md ops Q S fuel (listed.setIfInBounds i true) a w → K a w) → K (a.put oi.dst v) w) : wpAnyH P md ops Q S (fuel + 1) listed a w :=
  wpAnyH_take hi hs hf hr hQ hy hS (h _ fun _ _ h => h)
theorem held_one (i : Nat) (hr : Region.ready md ops listed = [i])
    (h1 : ∀ K : Act → World → Prop, (∀ a w, S w → wpAnyH P md ops Q S fuel (listed.setIfInBounds i true) a w → K a w) → wpOp P ops Q i K a w) : wpAnyH P md ops Q S (fuel + 1) listed a w :=
  wpAnyH_all hr (by simp) (by intro k hk; simp at hk; subst hk; exact h1 _ fun _ _ hs h => ⟨hs, h⟩)
theorem yields_load {ty : TypeId} {x : Operand} {B off : Nat} {cs : Array Value} (hl : ∀ w, S w → Loads P w ty B off cs) (hw : Region.wanted oi (yielded ops a.tmps) = true) (hop : oi.op = .load ty x) (hx : a.eval x = .pointer (some ⟨B, off, none⟩)) : YieldsIf P ops S oi (.agg cs) a := by
  refine Or.inl ⟨hw, fun w hS => ?_⟩
  unfold execOp
  simp only [hop, hx, Instr.loadAt, Instr.sureAddr, Sem.run_bind, Sem.run_pure, Result.andThen_ok, show (loadVar ty ⟨B, off, none⟩).run P w = .ok (.agg cs) w from hl w hS]
theorem wpOp_in {K : Act → World → Prop} (hi : ops[i]? = some oi) (hw : Region.wanted oi (yielded ops a.tmps) = true) (h : oi.wp P a w K Q) : wpOp P ops Q i K a w := by
  unfold wpOp
  simp only [hi]
  rw [if_pos hw]
  exact Or.inl h
end

end Go.Proofs.YtmnkhcefdpcheaaDoor.Sh
