/-
  A row of bytes that is read from its beginning: a part of a row, appended to, cut at its beginning, read as a text, looked through.
-/
import Derived.Test.YtdldoklkenhopaaGreatDoorChMem
import Derived.Shelf.Bytes.SlIndexAt
namespace Go.Proofs.YtdldoklkenhopaaGreatDoor.In
open Go.RowKit Go.PlainAid
open Hx Fi Ch
set_option linter.unusedVariables false
set_option maxRecDepth 20000
set_option linter.unusedSimpArgs false

def Win (w : World) (v : Value) (l : List UInt8) : Prop :=
  (v = .slice none 0 0 ∧ l = []) ∨ ∃ g o cap cur, v = .slice (some ⟨g, o, none⟩) l.length cap ∧ w.heap[g]? = some (.cells cur 5 (0, 0)) ∧ l.length ≤ cap ∧ cap ≤ 9223372036854775807 ∧ o + cap ≤ cur.size ∧ (cur.toList.drop o).take l.length = bytesV l
section
variable {w w' : World} {v : Value} {l : List UInt8}
theorem Win.nil (w : World) : Win w (.slice none 0 0) [] := .inl ⟨rfl, rfl⟩
theorem Win.form (h : Win w v l) : ∃ o cap, v = .slice o l.length cap ∧ l.length ≤ cap ∧ cap ≤ 9223372036854775807 := by
  rcases h with ⟨rfl, rfl⟩ | ⟨g, o, cap, cur, rfl, _, h1, h2, _⟩
  · exact ⟨none, 0, rfl, by simp, by omega⟩
  · exact ⟨_, cap, rfl, h1, h2⟩
theorem Win.same (h : Win w v l) (hs : ∀ b, v.ownBlock = some b → w'.heap[b]? = w.heap[b]?) : Win w' v l := by
  rcases h with h | ⟨g, o, cap, cur, rfl, hg, r⟩
  · exact .inl h
  · exact .inr ⟨g, o, cap, cur, rfl, by rw [hs g rfl]; exact hg, r⟩
theorem Win.block (h : Win w v l) {b : Nat} (hb : v.ownBlock = some b) : ∃ cur, w.heap[b]? = some (.cells cur 5 (0, 0)) := by
  rcases h with ⟨rfl, _⟩ | ⟨g, o, cap, cur, rfl, hg, _⟩
  · simp [Value.ownBlock] at hb
  · simp [Value.ownBlock] at hb
    subst hb
    exact ⟨cur, hg⟩
theorem Win.lt (h : Win w v l) {b : Nat} (hb : v.ownBlock = some b) : b < w.heap.size := by
  obtain ⟨cur, hc⟩ := h.block hb
  exact (Array.getElem?_eq_some_iff.1 hc).1
theorem Win.of_row (h : Row w v l) : Win w v l := by
  rcases h.2 with ⟨rfl, e⟩ | ⟨g, cap, cur, rfl, hb, hg, h1, h2, h3, h4⟩
  · exact .inl ⟨rfl, List.eq_nil_of_length_eq_zero e⟩
  · refine .inr ⟨g, 0, cap, cur, rfl, hg, h1, by unfold maxLen at h2; omega, by omega, ?_⟩
    simpa using h4
/-- its cells -/
theorem Win.cell {g o cap : Nat} (h : Win w (.slice (some ⟨g, o, none⟩) l.length cap) l) (j : Nat) (x : Value) (hx : (bytesV l)[j]? = some x) : w.cell? ((⟨g, o, none⟩ : Addr).add j) = some x := by
  rcases h with ⟨e, _⟩ | ⟨g', o', cap', cur, e, hg, h1, h2, h3, h4⟩
  · cases e
  · injection e with e1 e2 e3
    injection e1 with e1
    injection e1 with e1 e4
    subst e1 e4 e3
    rw [← h4, List.getElem?_take] at hx
    split at hx
    · rw [List.getElem?_drop] at hx
      rw [add_at, World.cell?, hg]
      simpa using hx
    · cases hx
theorem Win.text (h : Win w v l) : (convert 49 9 v).run Tryz.prog w = .ok (.string (tx l)) w := by
  rcases h with ⟨rfl, rfl⟩ | ⟨g, o, cap, cur, rfl, hg, h1, h2, h3, h4⟩
  · exact (Row.nil w).text
  · refine run_convert_bytes_back w 49 9 5 ⟨g, o, none⟩ cap l Tryz.underlying49 Tryz.underlying5 Tryz.underlying9 fun j hj => ?_
    exact Win.cell (.inr ⟨g, o, cap, cur, rfl, hg, h1, h2, h3, h4⟩) j _ (bytesV_get l j hj)
/-- append(bytes, text...) -/
theorem Win.append (h : Win w v l) (s : ByteArray) (hb : l.length + s.size ≤ 1099511627776) (ty : TypeId) :
    ∃ v' w', (Builtin.append_ #[49, 9] ty #[v, .string s]).run Tryz.prog w = .ok v' w' ∧ Win w' v' (l ++ ls s) ∧ w.grownBy w' v.ownBlock ∧ (v'.ownBlock = v.ownBlock ∨ v'.ownBlock = some w.heap.size) := by
  rcases h with ⟨rfl, rfl⟩ | ⟨g, o, cap, cur, rfl, hg, h1, h2, h3, h4⟩
  · obtain ⟨v', w', a, b, c, d⟩ := (Row.nil w).append s hb ty
    exact ⟨v', w', a, Win.of_row b, c, d⟩
  · obtain ⟨i, hi, hz, hs1, hb1⟩ := info_parts info5
    have ht := Tryz.underlying49
    have hu := Tryz.underlying9
    have hlen : (l ++ ls s).length = l.length + s.size := by rw [List.length_append, ls_len]
    have hxl : (bytesV l).length = l.length := bytesV_len l
    have hcl : (bytesV (l ++ ls s)).length = l.length + s.size := by rw [bytesV_len, hlen]
    by_cases hroom : l.length + s.size ≤ cap
    · have hf := Lib.run_firstCells_string (P := Tryz.prog) w 1 s
      have hst := run_storeCells_at Tryz.prog g (o + l.length) 5 (Lib.strCells s) 0 cur w hg (by simp only [Lib.strCells_length]; omega) (Lib.strCells_oneCell s)
      simp only [Nat.add_zero, Lib.strCells_length] at hst
      have hr : (Builtin.append_ #[49, 9] ty #[.slice (some ⟨g, o, none⟩) l.length cap, .string s]).run Tryz.prog w = .ok (.slice (some ⟨g, o, none⟩) (l.length + s.size) cap) (w.setRow g (cur.toList.take (o + l.length) ++ Lib.strCells s ++ cur.toList.drop (o + l.length + s.size)).toArray) := by
        simp [Builtin.append_, run_underlying ht, run_underlying hu, sizeOf, typeInfo, hi, hs1, Builtin.lenOf, hroom, hf, Addr.add_lit, hst]
      refine ⟨_, _, hr, .inr ⟨g, o, cap, _, by rw [hlen], setRow_heap w g cur _ _ _ hg, by rw [hlen]; exact hroom, h2, ?_, ?_⟩, ⟨rfl, rfl, rfl, by simp, fun k _ hk => setRow_other w g k _ (fun e => hk (by simp [Value.ownBlock, e]))⟩, .inl rfl⟩
      · simp only [List.size_toArray, List.length_append, List.length_take, List.length_drop, Array.length_toList, Lib.strCells_length]
        omega
      · have e1 : (cur.toList.take (o + l.length)).drop o = bytesV l := by rw [List.drop_take, Nat.add_sub_cancel_left]; exact h4
        have e2 : o ≤ (cur.toList.take (o + l.length)).length := by simp; omega
        rw [List.append_assoc, List.drop_append_of_le_length e2, e1, strCells_ls, ← List.append_assoc, ← bytesV_append, hlen, ← hcl]
        exact List.take_left
    · have holds : ∀ j u, (bytesV l)[j]? = some u → w.cell? ((⟨g, o, none⟩ : Addr).add j) = some u := fun j u hj => Win.cell (.inr ⟨g, o, cap, cur, rfl, hg, h1, h2, h3, h4⟩) j u hj
      have hr := Lib.run_append_grow_string (P := Tryz.prog) w 49 9 ty 5 i (.int .u8 0) ht hu hi hz ⟨g, o, none⟩ l.length cap (bytesV l) (by rw [hs1]; simpa using hxl) holds s (by omega) (by omega) (by rw [hb1]; exact growslice_fits (by omega) (by omega))
      have hge := grownCap_ge w (l.length + s.size) cap 5
      have hcm := grownCap_le_maxLen w (l.length + s.size) cap 5 (by unfold maxLen; omega)
      have hz1 : (Value.int IntKind.u8 0).cells.size = 1 := rfl
      refine ⟨_, _, hr, .inr ⟨w.heap.size, 0, _, _, by rw [hlen], heap_alloc_new w.drew _, by rw [hlen]; exact hge, by unfold maxLen at hcm; exact hcm, ?_, ?_⟩, ⟨rfl, rfl, rfl, by simp, fun k hk _ => Go.heap_alloc_old w.drew _ hk⟩, .inr rfl⟩
      · simp only [Array.size_append, List.size_toArray, size_zeroCells, hz1, hxl, Lib.strCells_length]
        omega
      · simp only [Array.toList_append, List.append_assoc, strCells_ls, List.drop_zero]
        rw [← List.append_assoc, ← bytesV_append, List.take_append_of_le_length (by rw [hcl, hlen]; exact Nat.le_refl _), List.take_of_length_le (by rw [hcl, hlen]; exact Nat.le_refl _)]
/-- bytes[n:] -/
theorem Win.from_ (h : Win w v l) (n : Nat) (hn : n ≤ l.length) : ∃ v', (∀ w2, (Instr.slice 49 v (some (.int .i64 (n : Int))) none none).run Tryz.prog w2 = .ok v' w2) ∧ Win w v' (l.drop n) ∧ v'.ownBlock = v.ownBlock ∧ ∃ o cap, v' = .slice o (l.length - n) cap := by
  obtain ⟨i, hi, hz, hs1, hb1⟩ := info_parts info5
  have ht : Tryz.prog.underlying 49 = some (.slice (Tryz.prog.elem 49)) := by kernel_rfl
  have he : Tryz.prog.elem 49 = 5 := by kernel_rfl
  have hsz : ∀ w2, (sizeOf (Tryz.prog.elem 49)).run Tryz.prog w2 = .ok 1 w2 := fun w2 => by rw [he]; simp [sizeOf, typeInfo, hi, hs1]
  rcases h with ⟨rfl, rfl⟩ | ⟨g, o, cap, cur, rfl, hg, h1, h2, h3, h4⟩
  · obtain rfl : n = 0 := by simpa using hn
    refine ⟨.slice none 0 0, fun w2 => ?_, Win.nil w, rfl, none, 0, rfl⟩
    rw [run_slice_l w2 49 none 0 0 ht .i64 ((0 : Nat) : Int) (by omega) (by omega), hsz]
    rfl
  · refine ⟨sliced (some ⟨g, o, none⟩) n l.length cap 1, fun w2 => ?_, ?_, ?_, ?_⟩
    · rw [run_slice_l w2 49 (some ⟨g, o, none⟩) l.length cap ht .i64 (n : Int) (by omega) (by omega), hsz]
      rfl
    · have e0 : (l.drop n).length = l.length - n := List.length_drop
      refine .inr ⟨g, if cap = n then o else o + n, cap - n, cur, ?_, hg, by omega, by omega, by split <;> omega, ?_⟩
      · unfold sliced
        rw [e0]
        by_cases c : cap = n
        · rw [if_pos c, if_pos c]
        · rw [if_neg c, if_neg c, Nat.mul_one]; simp only [Option.map_some, add_at]
      · rw [e0]
        by_cases c : cap = n
        · rw [show l.length - n = 0 by omega, List.take_zero, List.drop_of_length_le (by omega)]; rfl
        · rw [if_neg c, ← List.drop_drop]
          have : ((cur.toList.drop o).drop n).take (l.length - n) = (((cur.toList.drop o).take l.length)).drop n := by rw [List.drop_take]
          rw [this, h4]; simp [bytesV]
    · unfold sliced
      by_cases c : cap = n
      · rw [if_pos c]; rfl
      · rw [if_neg c, Nat.mul_one]; simp only [Option.map_some, add_at]; rfl
    · exact ⟨_, _, rfl⟩
end
theorem getD_bytes (l : List UInt8) (i : Nat) (h : i < l.length) : (l.map fun b => (b.toNat : Int)).getD i 0 = (l[i].toNat : Int) := by
  simp [List.getD, h]
theorem bytesOf_map (l : List UInt8) : Lib.bytesOf (l.map fun b => (b.toNat : Int)) = l := by
  unfold Lib.bytesOf
  rw [List.map_map]
  conv => rhs; rw [← List.map_id l]
  refine List.map_congr_left fun b _ => ?_
  simp
theorem idx_ge (l : List UInt8) (c : UInt8) : 0 ≤ Lib.indexByte l c ↔ c ∈ l := by
  induction l with
  | nil => simp [Lib.indexByte]
  | cons b l ih =>
    have h0 := Lib.indexByte_ge l c
    rw [Lib.indexByte]
    by_cases e : b = c
    · subst e; simp
    · have e2 : ¬ c = b := fun x => e x.symm
      simp only [beq_iff_eq, e, if_false, List.mem_cons, e2, false_or]
      rw [← ih]
      split <;> omega
/-- the library's bytes.IndexByte at a part of a row -/
theorem run_index_win {w : World} {v : Value} {l : List UInt8} (h : Win w v l) (c : UInt8) : (callFunc 72 #[v, .int .u8 (c.toNat : Int)]).run Tryz.prog w = .ok (.value (.int .i64 (Lib.indexByte l c))) w := by
  rw [run_callFunc_extern (e := Extern.BytealgIndexByte.indexByte) Tryz.func72 (by kernel_rfl) (by kernel_rfl) (by kernel_rfl) (by kernel_rfl)]
  rcases h with ⟨rfl, rfl⟩ | ⟨g, o, cap, cur, rfl, hg, h1, h2, h3, h4⟩
  · rw [show Extern.BytealgIndexByte.indexByte #[.slice none 0 0, .int .u8 (c.toNat : Int)] = _ from rfl]
    have := Lib.run_indexByteNil (P := Tryz.prog) w 0 0 (c.toNat : Int)
    rw [this]; rfl
  · have hcell := fun j u hj => Win.cell (.inr ⟨g, o, cap, cur, rfl, hg, h1, h2, h3, h4⟩ : Win w (.slice (some ⟨g, o, none⟩) l.length cap) l) j u hj
    rw [Lib.run_indexByteAt w ⟨g, o, none⟩ l.length cap (l.map fun b => (b.toNat : Int)) (by simp) (fun i hi => by rw [getD_bytes l i hi]; exact hcell i _ (bytesV_get l i hi)) (c.toNat : Int), bytesOf_map]
    congr 3
    simp
theorem index_win {w : World} {v : Value} {l : List UInt8} (h : Win w v l) (c : UInt8) :
    Calls Tryz.prog 53 #[v, .int .u8 (c.toNat : Int)] w fun e w' => e = .returned (.int .i64 (Lib.indexByte l c)) ∧ w = w' := by
  have r := run_index_win h c
  obtain ⟨o, cap, rfl, _, _⟩ := h.form
  have HC := Lib.hid h
  clear h
  generalize Lib.indexByte l c = K at *
  generalize (c.toNat : Int) = k at *
  go_enter Tryz.func53, Tryz.ntmps53
  go_wp2
  go_ret
  exact ⟨rfl, rfl⟩
/-- append(bytes, text...) at an operation -/
theorem wpl_wapp {ops : Array Oper} {rest : List Oper} {o : Oper} {a : Act} {Q : Exit → Act → World → Prop} {w : World} {v : Value} {l : List UInt8} (h : Win w v l) {s : ByteArray} (hb : l.length + s.size ≤ 1099511627776) (hgd : o.guard = none) (sl x : Operand)
    (hop : o.op = .call { callee := .builtin .append, args := #[sl, x], argTypes := #[49, 9] }) (hs : a.eval sl = v) (hx : a.eval x = .string s)
    (hK : ∀ o' m cap w', Win w' (.slice o' m cap) (l ++ ls s) → w.grownBy w' v.ownBlock → Lies w v (.slice o' m cap) → wpList Tryz.prog ops Q rest (a.put o.dst (.slice o' m cap)) w') : wpList Tryz.prog ops Q (o :: rest) a w :=
  wpList_plain hgd fun K hK' => by
    obtain ⟨v', w', hr, h2, h3, h4⟩ := h.append s hb o.type
    unfold Oper.wp execOp
    simp only [hop, resolve, invoke, builtin, Sem.run_bind, Sem.run_pure, Result.andThen_ok, List.map_toArray, List.map_cons, List.map_nil, hs, hx, hr]
    obtain ⟨o', cap', rfl, _, _⟩ := h2.form
    refine hK' _ _ (hK o' _ cap' w' h2 h3 ?_)
    rcases h4 with e | e
    · exact .inl e
    · exact .inr fun b hb => by rw [e] at hb; exact Nat.le_of_eq (Option.some.inj hb)
end Go.Proofs.YtdldoklkenhopaaGreatDoor.In
