/-
  Rows of bytes that a struct holds: read as a text, appended to, cut to nothing; a struct of a body in chunks in memory; what turns, what stays.
-/
import Derived.Test.YtdldoklkenhopaaGreatDoorSet4
import Derived.Test.YtdldoklkenhopaaGreatDoorSet2
import Derived.Lib.AppendStr
import Derived.Deep.AppendLies
import Derived.Lib.Hide
namespace Go.Proofs.YtdldoklkenhopaaGreatDoor.Ch
open Go.RowKit Go.PlainAid
open Hx Fi
set_option linter.unusedVariables false
set_option maxRecDepth 20000
set_option linter.unusedSimpArgs false

/-! ### rows of bytes -/
def Row (w : World) (v : Value) (l : List UInt8) : Prop := w.ownsRow 0 5 1 v l.length (bytesV l)
theorem Row.nil (w : World) : Row w (.slice none 0 0) [] := World.ownsRow_nil w 0 5 1
theorem Row.form {w : World} {v : Value} {l : List UInt8} (h : Row w v l) : ∃ o cap, v = .slice o l.length cap ∧ l.length ≤ cap ∧ cap ≤ 9223372036854775807 := by
  rcases h.2 with ⟨rfl, e⟩ | ⟨g, cap, cur, rfl, _, _, h1, h2, _⟩
  · exact ⟨none, 0, by rw [e], by omega, by omega⟩
  · exact ⟨_, cap, rfl, h1, by unfold maxLen at h2; omega⟩
theorem Row.len {w : World} {o : Option Addr} {n cap : Nat} {l : List UInt8} (h : Row w (.slice o n cap) l) : n = l.length := by
  obtain ⟨o', cap', e, _⟩ := h.form
  injection e
theorem Row.same {w w' : World} {v : Value} {l : List UInt8} (h : Row w v l) (hs : ∀ b, v.ownBlock = some b → w'.heap[b]? = w.heap[b]?) : Row w' v l := by
  refine ⟨h.1, ?_⟩
  rcases h.2 with hn | ⟨g, cap, cur, rfl, hb, hg, r⟩
  · exact .inl hn
  · exact .inr ⟨g, cap, cur, rfl, hb, by rw [hs g rfl]; exact hg, r⟩
theorem Row.block {w : World} {v : Value} {l : List UInt8} (h : Row w v l) {b : Nat} (hb : v.ownBlock = some b) : ∃ cur, w.heap[b]? = some (.cells cur 5 (0, 0)) := by
  rcases h.2 with ⟨rfl, _⟩ | ⟨g, cap, cur, rfl, _, hg, _⟩
  · simp [Value.ownBlock] at hb
  · simp [Value.ownBlock] at hb
    subst hb
    exact ⟨cur, hg⟩
theorem Row.text {w : World} {v : Value} {l : List UInt8} (h : Row w v l) : (convert 49 9 v).run Tryz.prog w = .ok (.string (tx l)) w := conv_row h
theorem Row.cut {w : World} {o : Option Addr} {n cap : Nat} {l : List UInt8} (h : Row w (.slice o n cap) l) : Row w (.slice o 0 cap) [] := by
  refine ⟨rfl, ?_⟩
  rcases h.2 with ⟨e, _⟩ | ⟨g, cap', cur, e, hb, hg, h1, h2, h3, h4⟩
  · injection e with e1 e2 e3
    subst e1 e3
    exact .inl ⟨rfl, rfl⟩
  · injection e with e1 e2 e3
    subst e1 e3
    exact .inr ⟨g, cap, cur, rfl, hb, hg, Nat.zero_le _, h2, h3, by simp [bytesV]⟩
theorem strCells_ls (s : ByteArray) : Lib.strCells s = bytesV (ls s) := rfl
/-- append(bytes, text...) -/
theorem Row.append {w : World} {v : Value} {l : List UInt8} (h : Row w v l) (s : ByteArray) (hb : l.length + s.size ≤ 1099511627776) (ty : TypeId) :
    ∃ v' w', (Builtin.append_ #[49, 9] ty #[v, .string s]).run Tryz.prog w = .ok v' w' ∧ Row w' v' (l ++ ls s) ∧ w.grownBy w' v.ownBlock ∧ (v'.ownBlock = v.ownBlock ∨ v'.ownBlock = some w.heap.size) := by
  obtain ⟨i, hi, hz, hs1, hb1⟩ := info_parts info5
  have ht := Tryz.underlying49
  have hu := Tryz.underlying9
  have hlen : (l ++ ls s).length = l.length + s.size := by rw [List.length_append, ls_len]
  have hxl : (bytesV l).length = l.length := bytesV_len l
  have hcl : (bytesV (l ++ ls s)).length = (l.length + s.size) * 1 := by rw [bytesV_len, hlen, Nat.mul_one]
  have grown : ∀ (old : Nat), ∀ row : Option Nat, Row (w.drew.alloc (.cells ((bytesV l).toArray ++ (Lib.strCells s).toArray ++ Builtin.zeroCells (Value.int .u8 0).cells (grownCap w (l.length + s.size) old 5 - (l.length + s.size))) 5))
        (.slice (some ⟨w.heap.size, 0, none⟩) (l.length + s.size) (grownCap w (l.length + s.size) old 5)) (l ++ ls s) ∧
      w.grownBy (w.drew.alloc (.cells ((bytesV l).toArray ++ (Lib.strCells s).toArray ++ Builtin.zeroCells (Value.int .u8 0).cells (grownCap w (l.length + s.size) old 5 - (l.length + s.size))) 5)) row := by
    intro old row
    have hge := grownCap_ge w (l.length + s.size) old 5
    have hcm := grownCap_le_maxLen w (l.length + s.size) old 5 (by unfold maxLen; omega)
    refine ⟨⟨by rw [hcl, hlen], .inr ⟨w.heap.size, _, _, by rw [hlen], Nat.zero_le _, heap_alloc_new w.drew _, by rw [hlen]; exact hge, hcm, ?_, ?_⟩⟩, ⟨rfl, rfl, rfl, by simp, fun k hk _ => Go.heap_alloc_old w.drew _ hk⟩⟩
    · have hz1 : (Value.int IntKind.u8 0).cells.size = 1 := rfl
      simp only [Array.size_append, List.size_toArray, size_zeroCells, hz1, hxl, Lib.strCells_length]
      omega
    · simp only [Array.toList_append, List.append_assoc, strCells_ls]
      rw [← List.append_assoc, ← bytesV_append, List.take_append_of_le_length (by rw [hcl, hlen]; exact Nat.le_refl _), List.take_of_length_le (by rw [hcl, hlen]; exact Nat.le_refl _)]
  rcases h.2 with ⟨rfl, h0⟩ | ⟨g, cap, cur, rfl, hbg, hg, hl, hm, hc, htk⟩
  · have hn0 : l = [] := List.eq_nil_of_length_eq_zero h0
    subst hn0
    by_cases h0 : s.size = 0
    · have hn : ls s = [] := ls_empty h0
      refine ⟨.slice none 0 0, w, ?_, by rw [hn]; exact Row.nil w, ⟨rfl, rfl, rfl, Nat.le_refl _, fun _ _ _ => rfl⟩, .inl rfl⟩
      have hf := Lib.run_firstCells_string (P := Tryz.prog) w 1 s
      rw [h0] at hf
      simp [Builtin.append_, run_underlying ht, run_underlying hu, sizeOf, typeInfo, hi, hs1, Builtin.lenOf, h0, hf]
    · have hr := run_append_nil_string (P := Tryz.prog) w 49 9 ty 5 i (.int .u8 0) ht hu hi hz s (by omega) (by omega) (by rw [hb1]; omega)
      have hgr := grown 0 (Value.ownBlock (.slice none 0 0))
      have e0 : bytesV [] = [] := rfl
      simp only [List.length_nil, Nat.zero_add, List.nil_append, e0, Array.empty_append] at hgr ⊢
      have e1 : (s.data.map fun b => Value.int .u8 b.toNat) = (Lib.strCells s).toArray := by
        apply Array.ext'
        simp [Lib.strCells]
      rw [e1] at hr
      exact ⟨_, _, hr, hgr.1, hgr.2, .inr rfl⟩
  · have htk' : cur.toList.take l.length = bytesV l := by simpa using htk
    by_cases hroom : l.length + s.size ≤ cap
    · have hr := Lib.run_append_room_string (P := Tryz.prog) w 49 9 ty 5 i ht hu hi hs1 g l.length cap cur hg s hroom (by omega)
      refine ⟨_, _, hr, ⟨by rw [hcl, hlen], .inr ⟨g, cap, _, by rw [hlen], Nat.zero_le _, setRow_heap w g cur _ _ _ hg, by rw [hlen]; exact hroom, hm, ?_, ?_⟩⟩, ⟨rfl, rfl, rfl, by simp, fun k _ hk => setRow_other w g k _ (fun e => hk (by simp [Value.ownBlock, e]))⟩, .inl rfl⟩
      · simp only [List.size_toArray, List.length_append, List.length_take, List.length_drop, Array.length_toList, Lib.strCells_length]
        omega
      · rw [htk', strCells_ls, ← bytesV_append]
        show List.take _ (bytesV (l ++ ls s) ++ _) = _
        rw [hlen, ← hcl]
        exact List.take_left
    · have holds : ∀ j u, (bytesV l)[j]? = some u → w.cell? ((⟨g, 0, none⟩ : Addr).add j) = some u := World.ownsRow.cells h (g := g) rfl
      have hr := Lib.run_append_grow_string (P := Tryz.prog) w 49 9 ty 5 i (.int .u8 0) ht hu hi hz ⟨g, 0, none⟩ l.length cap (bytesV l) (by rw [hs1]; simpa using hxl) holds s (by omega) (by omega) (by rw [hb1]; exact growslice_fits (by omega) (by omega))
      have hgr := grown cap (Value.ownBlock (.slice (some ⟨g, 0, none⟩) l.length cap))
      exact ⟨_, _, hr, hgr.1, hgr.2, .inr rfl⟩

/-! ### regions that draw: what only computes is taken first, the rest in its one order -/
section
variable {P : Program} {md : Region.Mode} {ops : Array Oper} {Q : Exit → Act → World → Prop}
theorem any_one (i : Nat) {fuel : Nat} {listed : Array Bool} {a : Act} {w : World} (hr : Region.ready md ops listed = [i])
    (h : ∀ K : Act → World → Prop, (∀ a w, wpAny P md ops Q fuel (listed.setIfInBounds i true) a w → K a w) → wpOp P ops Q i K a w) : wpAny P md ops Q (fuel + 1) listed a w :=
  wpAny_all hr (by simp) (by intro k hk; simp at hk; subst hk; exact h _ fun _ _ h => h)
theorem any_take (i : Nat) (v : Value) {oi : Oper} {fuel : Nat} {listed : Array Bool} {a : Act} {w : World} (hi : ops[i]? = some oi) (hs : Region.noSelect ops = true) (hf : Region.free md ops listed i = true) (hr : (Region.ready md ops listed).contains i = true)
    (hQ : ∀ c a w, Q (.panic c) (a.put oi.dst v) w → Q (.panic c) a w) (hy : Yields P ops oi v a)
    (h : ∀ K : Act → World → Prop, (∀ a w, wpAny P md ops Q fuel (listed.setIfInBounds i true) a w → K a w) → K (a.put oi.dst v) w) : wpAny P md ops Q (fuel + 1) listed a w :=
  wpAny_take hi hs hf hr hQ hy (h _ fun _ _ h => h)
end
end Go.Proofs.YtdldoklkenhopaaGreatDoor.Ch
