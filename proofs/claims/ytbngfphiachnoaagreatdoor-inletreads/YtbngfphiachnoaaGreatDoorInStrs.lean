/-
  Rows of texts as arguments, with the reach of the form; rows of texts as things.
-/
import Derived.Test.YtbngfphiachnoaaGreatDoorInOpen
import Derived.Test.YtbngfphiachnoaaGreatDoorInList
import Derived.SliceStrings
namespace Go.Proofs.YtbngfphiachnoaaGreatDoor.In
open Go.RowKit Go.PlainAid Go.ChangeShapes Go.ChangeAt Go.WideShapes Go.WideMaps
open Hx Fi Ch
set_option linter.unusedVariables false
set_option maxRecDepth 20000
set_option linter.unusedSimpArgs false

section
variable {H : Type} {enc : TypeId × Value → H} {w : World} {base : Nat} {spare : Nat → Bool} {held : Bool} {fuel : Nat} {x : DataW H × List MemPlace}
theorem weights_str (s : ByteArray) : DataW.weights Tryz.prog 9 (.lit (.string s.data.toList) : DataW H) = [s.size] := by
  have h1 : s.data.toList.length = s.size := by simp
  simp [DataW.weights, h1]
theorem open_strs {b : Option Addr} {len cap : Nat} (h : DataW.trod enc Tryz.prog w base spare held fuel 22 [.slice b len cap] = some x) :
    ∃ l : List ByteArray, StrsAt w (.slice b len cap) l ∧ l.length ≤ 9223372036854775807 ∧ ((∀ n ∈ DataW.weights Tryz.prog 22 x.1, n ≤ reachBytes) → ∀ s ∈ l, s.size ≤ 140737488355328) := by
  rcases open_strings Tryz.underlying22 Tryz.underlying9 (by kernel_rfl) h with ⟨hcs, hx⟩ | ⟨a, len', cap', ss, hcs, _, hl, hm, hz, hx, hcell, hsz⟩
  · simp at hcs
    obtain ⟨rfl, rfl, rfl⟩ := hcs
    exact ⟨[], none_strs w, by simp, fun _ s hs => by cases hs⟩
  · simp at hcs
    obtain ⟨rfl, rfl, rfl⟩ := hcs
    have hle : len ≤ ss.length := by rw [hz]; split <;> omega
    have hll : (ss.take len).length = len := by rw [List.length_take, Nat.min_eq_left hle]
    refine ⟨ss.take len, ⟨some a, cap, by rw [hll], by rw [hll]; exact hl, ?_⟩, ?_, ?_⟩
    · intro j s hs
      have hj : j < ss.length := by
        have := (List.getElem?_eq_some_iff.1 hs).1
        simp at this; omega
      have hc := hcell j hj
      have e : ss.getD j ByteArray.empty = s := by
        rw [List.getElem?_take] at hs
        split at hs
        · simp [List.getD, hs]
        · cases hs
      rw [e] at hc
      have hb := World.block_lt_of_cell? w _ hc
      rw [show (a.add j).block = a.block by unfold Addr.add; split <;> rfl] at hb
      exact ⟨a, rfl, hb, hc⟩
    · rw [hll]; unfold maxLen at hm; omega
    · intro hw s hs
      have hmem : (.lit (.string s.data.toList) : DataW H) ∈ strs (H := H) (ss.take len) := List.mem_map_of_mem hs
      have key : s.size ≤ reachBytes := by
        refine hw s.size ?_
        rw [hx]
        simp only [DataW.weights, Tryz.underlying22]
        refine List.mem_cons_of_mem _ (List.mem_append_left _ ?_)
        exact weights_all hmem s.size (by rw [weights_str]; simp)
      unfold reachBytes at key
      omega
end
/-! ### rows of texts as things -/
def strV (ss : List ByteArray) : List Value := ss.map Value.string
theorem ownS_same {w w' : World} {T n : Nat} {v : Value} {xs : List Value} (h : w.ownsRow 0 T 1 v n xs) (hs : ∀ b, v.ownBlock = some b → w'.heap[b]? = w.heap[b]?) : w'.ownsRow 0 T 1 v n xs := by
  refine ⟨h.1, ?_⟩
  rcases h.2 with hn | ⟨g, cap, cur, rfl, hb, hg, r⟩
  · exact .inl hn
  · exact .inr ⟨g, cap, cur, rfl, hb, by rw [hs g rfl]; exact hg, r⟩
def strT (v : Value) (ss : List ByteArray) : Thing :=
  ⟨fun w Z => w.ownsRow 0 9 1 v ss.length (strV ss) ∧ ∀ b, Z b ↔ v.ownBlock = some b,
   fun _ _ _ ⟨a, z⟩ hs hb => ⟨ownS_same a fun b e => hb b ((z b).2 e), z⟩, fun _ _ ⟨a, z⟩ b hb => (a.lt b ((z b).1 hb)).2⟩
section
variable {w0 w : World} {Z0 : Nat → Prop} {L : List Thing}
theorem own_snil (h : Owns w0 Z0 w L) (j : Nat) (hj : L[j]? = some noT) : Owns w0 Z0 (w.alloc (.cells #[] 9)) (L.set j (strT (.slice (some ⟨w.heap.size, 0, none⟩) 0 0) [])) := by
  obtain ⟨Z, hZ, k⟩ := h.one j hj
  have B : Below w.heap.size w (w.alloc (.cells #[] 9)) := (Below.refl _ _).alloc (Nat.le_refl _) _
  refine k _ (strT _ []) (fun b => b = w.heap.size) ⟨World.ownsRow_made w #[] 0 (Nat.zero_le _) (Nat.zero_le _) rfl, fun b => ?_⟩ ⟨B.os, B.tape, B.output, B.size, fun b x _ => B.block b x, fun b x => .inr (by omega)⟩
  simp [Value.ownBlock]
  exact ⟨fun e => e.symm, fun e => e.symm⟩
/-- append(texts, s) -/
theorem own_spush (h : Owns w0 Z0 w L) (i : Nat) {v : Value} {ss : List ByteArray} (hi : L[i]? = some (strT v ss)) (s : ByteArray) (hb : ss.length + 1 ≤ 1000000) (ty : TypeId) :
    ∃ v' w', (Builtin.append_ #[22, 22] ty #[v, .slice (some ⟨w.heap.size, 0, none⟩) 1 1]).run Tryz.prog (w.alloc (.cells #[.string s] 9)) = .ok v' w' ∧ Owns w0 Z0 w' (L.set i (strT v' (ss ++ [s]))) := by
  have hB : Below w.heap.size w (w.alloc (.cells #[.string s] 9)) := (Below.refl _ _).alloc (Nat.le_refl _) _
  obtain ⟨Z, ⟨own, hZ⟩, k⟩ := (h.below hB).one i hi
  obtain ⟨i0, hi0, hz0, hz1, hz2⟩ := info_parts infoS
  obtain ⟨v', w', hr, o2, g2, _, l2⟩ := run_append_own_at (P := Tryz.prog) (w.alloc (.cells #[.string s] 9)) 0 22 ty 9 i0 (.string ⟨#[]⟩) 1 16 Tryz.underlying22 hi0 hz0 hz1 hz2 rfl (by decide) v ss.length (strV ss) own ⟨w.heap.size, 0, none⟩ 1 1 [.string s] rfl (fun j u hj => by
    rw [add_at, Nat.zero_add, (At.new w _ _).cell]
    simpa using hj) (by intro u hu; simp at hu; subst hu; rfl) (by unfold maxLen; omega) (by omega) (Nat.zero_le _)
  have vlt : ∀ b, v.ownBlock = some b → b < (w.alloc (.cells #[.string s] 9)).heap.size := fun b e => (own.lt b e).2
  refine ⟨v', w', hr, k w' (strT v' (ss ++ [s])) (fun b => v'.ownBlock = some b) ⟨?_, fun b => Iff.rfl⟩ ⟨g2.os, g2.tape, g2.output, g2.size, fun b h1 h2 => g2.block b h1 fun e => h2 ((hZ b).2 e.symm), fun b x => ?_⟩⟩
  · rw [List.length_append, show strV (ss ++ [s]) = strV ss ++ [.string s] by simp [strV]]
    exact o2
  · rcases l2 with y | y
    · exact .inl ((hZ b).2 (by rw [← y]; exact x))
    · rw [y] at x; exact .inr (Nat.le_of_eq (Option.some.inj x))
theorem own_sat (h : Owns w0 Z0 w L) (i : Nat) {v : Value} {ss : List ByteArray} (hi : L[i]? = some (strT v ss)) : ∃ o cap, v = .slice o ss.length cap ∧ ∀ k s, ss[k]? = some s → ∃ a : Addr, o = some a ∧ a.block < w.heap.size ∧ w.cell? (a.add k) = some (.string s) := by
  obtain ⟨Z, ⟨own, hZ⟩, k⟩ := h.one i hi
  rcases own.2 with ⟨rfl, h0⟩ | ⟨g, cap, cur, rfl, hbg, hgg, h1, h2, h3, h4⟩
  · have : ss = [] := List.eq_nil_of_length_eq_zero h0
    subst this
    exact ⟨none, 0, rfl, fun k e he => by cases he⟩
  · refine ⟨some ⟨g, 0, none⟩, cap, rfl, fun k s he => ⟨_, rfl, (Array.getElem?_eq_some_iff.1 hgg).1, ?_⟩⟩
    exact World.ownsRow.cells own rfl _ _ (by simp [strV, he])
end
theorem wpl_buildS {ops : Array Oper} {rest : List Oper} {o : Oper} {a : Act} {w : World} {Q : Exit → Act → World → Prop} {x : Operand} {s : ByteArray} (hg : o.guard = none) (ho : o.op = .buildSlice 22 1 #[(0, x)]) (hx : a.eval x = .string s)
    (h : wpList Tryz.prog ops Q rest (a.put o.dst (.slice (some ⟨w.heap.size, 0, none⟩) 1 1)) (w.alloc (.cells #[.string s] 9))) : wpList Tryz.prog ops Q (o :: rest) a w := by
  obtain ⟨i0, hi, hz0, hz1, hz2⟩ := info_parts infoS
  refine wpList_buildSlice hg 22 9 1 #[(0, x)] ho #[.string s] i0 (.string ⟨#[]⟩) Tryz.underlying22 hi hz0 (by rw [hz1]; decide) (by rw [hz1]; decide) ?_ h
  rw [hz1]
  have e : (#[(0, x)].map fun (i, x) => (i, a.eval x)).toList = (([Value.string s].zipIdx 0).map fun x => (x.2, x.1)) := by
    simp [hx]
  rw [e, Great.fill_whole (s := 1) (by decide) [.string s] _ (by intro v hv; simp at hv; subst hv; rfl) (by simp)]
  simp [Value.cells]
theorem wpl_appS {ops : Array Oper} {rest : List Oper} {o : Oper} {a : Act} {Q : Exit → Act → World → Prop} {w : World} {v u : Value} {R : Value → World → Prop} (hr : ∀ ty, ∃ v' w', (Builtin.append_ #[22, 22] ty #[v, u]).run Tryz.prog w = .ok v' w' ∧ R v' w') (hgd : o.guard = none) (sl x : Operand)
    (hop : o.op = .call { callee := .builtin .append, args := #[sl, x], argTypes := #[22, 22] }) (hs : a.eval sl = v) (hx : a.eval x = u)
    (hK : ∀ v' w', R v' w' → wpList Tryz.prog ops Q rest (a.put o.dst v') w') : wpList Tryz.prog ops Q (o :: rest) a w :=
  wpList_plain hgd fun K hK' => by
    obtain ⟨v', w', hr, h2⟩ := hr o.type
    unfold Oper.wp execOp
    simp only [hop, resolve, invoke, builtin, Sem.run_bind, Sem.run_pure, Result.andThen_ok, List.map_toArray, List.map_cons, List.map_nil, hs, hx, hr]
    exact hK' _ _ (hK v' w' h2)
end Go.Proofs.YtbngfphiachnoaaGreatDoor.In
