/-
  Contracts of New, Len, Copy and Write: what a digest that goes on holds.
-/
import Derived.Test.YtmnkhcefdpcheaaDoorShEnd
import Derived.Deep.RegionLaw
import Derived.Great.BuildSlice
namespace Go.Proofs.YtmnkhcefdpcheaaDoor.Sh
open Go.RowKit Go.PlainAid
set_option linter.unusedVariables false
set_option linter.unusedSimpArgs false

/-! ### an operation of a region that draws -/
theorem wpOp_of {P : Program} {ops : Array Oper} {Q : Exit → Act → World → Prop} {i : Nat} {o : Oper} {K : Act → World → Prop} {a : Act} {w : World} (hi : ops[i]? = some o) (hgd : o.guard = none) (h : o.wp P a w K Q) : wpOp P ops Q i K a w := by
  unfold wpOp
  simp only [hi]
  rw [if_pos (by simp [Region.wanted, hgd])]
  exact Or.inl h
theorem wpOp_load {P : Program} {ops : Array Oper} {Q : Exit → Act → World → Prop} {i : Nat} {o : Oper} {K : Act → World → Prop} {a : Act} {w : World} {ty : TypeId} {x : Operand} {B off : Nat} {cs : Array Value} (hl : Loads P w ty B off cs) (hi : ops[i]? = some o) (hgd : o.guard = none) (hop : o.op = .load ty x) (hx : a.eval x = .pointer (some ⟨B, off, none⟩))
    (h : K (a.put o.dst (.agg cs)) w) : wpOp P ops Q i K a w := by
  refine wpOp_of hi hgd ?_
  unfold Oper.wp execOp
  simp only [hop, hx, Instr.loadAt, Instr.sureAddr, Sem.run_bind, Sem.run_pure, Result.andThen_ok, show (loadVar ty ⟨B, off, none⟩).run P w = .ok (.agg cs) w from hl]
  exact h
theorem wpAny_two {P : Program} {md : Region.Mode} {ops : Array Oper} {Q : Exit → Act → World → Prop} {i j fuel : Nat} {listed : Array Bool} {a : Act} {w : World} (hr : Region.ready md ops listed = [i, j])
    (h1 : ∀ K : Act → World → Prop, (∀ a w, wpAny P md ops Q fuel (listed.setIfInBounds i true) a w → K a w) → wpOp P ops Q i K a w) (h2 : ∀ K : Act → World → Prop, (∀ a w, wpAny P md ops Q fuel (listed.setIfInBounds j true) a w → K a w) → wpOp P ops Q j K a w) : wpAny P md ops Q (fuel + 1) listed a w :=
  wpAny_all hr (by simp) (by
    intro k hk; simp at hk
    rcases hk with rfl | rfl
    · exact h1 _ fun _ _ h => h
    · exact h2 _ fun _ _ h => h)
theorem wpAny_one {P : Program} {md : Region.Mode} {ops : Array Oper} {Q : Exit → Act → World → Prop} {i fuel : Nat} {listed : Array Bool} {a : Act} {w : World} (hr : Region.ready md ops listed = [i])
    (h1 : ∀ K : Act → World → Prop, (∀ a w, wpAny P md ops Q fuel (listed.setIfInBounds i true) a w → K a w) → wpOp P ops Q i K a w) : wpAny P md ops Q (fuel + 1) listed a w :=
  wpAny_all hr (by simp) (by intro k hk; simp at hk; subst hk; exact h1 _ fun _ _ h => h)
theorem wpAny_taken {P : Program} {md : Region.Mode} {ops : Array Oper} {Q : Exit → Act → World → Prop} (i : Nat) (v : Value) {oi : Oper} {fuel : Nat} {listed : Array Bool} {a : Act} {w : World} (hi : ops[i]? = some oi)
    (hs : Region.noSelect ops = true) (hf : Region.free md ops listed i = true) (hr : (Region.ready md ops listed).contains i = true)
    (hQ : ∀ c a w, Q (.panic c) (a.put oi.dst v) w → Q (.panic c) a w) (hy : Yields P ops oi v a)
    (h : ∀ K : Act → World → Prop, (∀ a w, wpAny P md ops Q fuel (listed.setIfInBounds i true) a w → K a w) → K (a.put oi.dst v) w) : wpAny P md ops Q (fuel + 1) listed a w :=
  wpAny_take hi hs hf hr hQ hy (h _ fun _ _ h => h)

/-! ### the bytes of a text -/
def bl (s : ByteArray) : List Nat := s.data.toList.map UInt8.toNat
theorem bl_len (s : ByteArray) : (bl s).length = s.size := by simp [bl]
theorem bl_lt (s : ByteArray) : ∀ x ∈ bl s, x < 256 := by
  intro x hx
  simp only [bl, List.mem_map] at hx
  obtain ⟨c, _, rfl⟩ := hx
  exact c.toNat_lt

theorem start_vals : (vals .u32 start) = [.int .u32 1779033703, .int .u32 3144134277, .int .u32 1013904242, .int .u32 2773480762, .int .u32 1359893119, .int .u32 2600822924, .int .u32 528734635, .int .u32 1541459225] := rfl
/-- the tables lie as the program's text lays them -/
structure Tabs (w : World) : Prop where
  start : Tab w 0 start
  keys : Tab w 1 keys
theorem Tabs.below {w w' : World} {N : Nat} (h : Tabs w) (hb : Below N w w') (hN : 1 < N) : Tabs w' := ⟨h.start.below hb (by omega), h.keys.below hb hN⟩

set_option maxRecDepth 100000 in
set_option maxHeartbeats 4000000 in
theorem new_any (w : World) (ht : Tabs w) :
    Calls Tryd.prog 29 #[] w fun e w' => e = .returned (.pointer (some ⟨w.heap.size, 0, none⟩)) ∧ w' = w.alloc (.cells (shaV start (List.replicate 64 0) 0).toArray 61) := by
  have L1 := ht.start.loads (P := Tryd.prog) (ty := 53) (by kernel_rfl) (by kernel_rfl)
  clear ht
  go_enter Tryd.func29, Tryd.ntmps29
  go_wp2_with (first | refine wpl_load L1 rfl rfl rfl ?_ | refine wpList_buildTo rfl 61 #[(0, .tmp 1)] rfl (some 2) rfl (shaV start (List.replicate 64 0) 0).toArray (by kernel_rfl) ?_)
  go_ret
  exact ⟨rfl, rfl⟩

theorem zero42 : ∀ w, (zeroValue 61).run Tryd.prog w = .ok (.agg (shaV (List.replicate 8 0) (List.replicate 64 0) 0).toArray) w := (zero_of_info (P := Tryd.prog) (t := 61) (v := .agg (shaV (List.replicate 8 0) (List.replicate 64 0) 0).toArray) (n := 73) (by kernel_rfl)).1
end Go.Proofs.YtmnkhcefdpcheaaDoor.Sh
