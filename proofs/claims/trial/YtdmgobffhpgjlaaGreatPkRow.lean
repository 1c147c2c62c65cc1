/-
  Rows of bytes: read as a text, cut, appended to, one byte turned, made of a text.
-/
import Derived.Test.YtdmgobffhpgjlaaGreatPkFind
import Derived.Lib.AppendStr
import Derived.Lib.ConvBytes
import Derived.Laws.IdiomCopy

namespace Go.Proofs.YtdmgobffhpgjlaaGreat.Pk
open Go.RowKit Go.PlainAid Go.Maps
set_option linter.unusedVariables false
set_option maxRecDepth 20000
set_option linter.unusedSimpArgs false

theorem bv_len (l : Bs) : (l.map bv).length = l.length := by simp
theorem RowB.form {w : World} {v : Value} {bs : Bs} (h : RowB w v bs) : ∃ o cap, v = .slice o bs.length cap ∧ bs.length ≤ 9223372036854775807 := by
  rcases h with ⟨rfl, rfl⟩ | ⟨g, cap, cur, fr, rfl, hg, hf, hl, hm, _⟩
  · exact ⟨none, 0, rfl, by simp⟩
  · exact ⟨_, cap, rfl, by unfold maxLen at hm; omega⟩
theorem frozen_row {w : World} {g : Nat} {cur : Array Value} {t : TypeId} {fr : Nat × Nat} (hg : w.heap[g]? = some (.cells cur t fr)) (hf : fr = (0, 0) ∨ fr = (cur.size, cur.size + 1)) {j : Nat} (hj : j < cur.size) : w.frozen? ⟨g, j, none⟩ = false := by
  rcases hf with rfl | rfl
  · simp [World.frozen?, hg]
  · simp only [World.frozen?, hg]
    have : ¬ cur.size ≤ j := by omega
    simp [this]
theorem RowB.cells {w : World} {g len cap : Nat} {bs : Bs} (h : RowB w (.slice (some ⟨g, 0, none⟩) len cap) bs) : len = bs.length ∧ ∀ j c, bs[j]? = some c → w.cell? ⟨g, j, none⟩ = some (bv c) ∧ w.frozen? ⟨g, j, none⟩ = false := by
  rcases h with ⟨e, _⟩ | ⟨g', cap', cur, fr, e, hg, hf, hl, hm, hc, ht⟩
  · cases e
  · injection e with e1 e2 e3
    injection e1 with e1
    injection e1 with e1
    subst e1 e2 e3
    refine ⟨rfl, fun j c hj => ?_⟩
    have hlt := (List.getElem?_eq_some_iff.1 hj).1
    refine ⟨?_, frozen_row hg hf (by omega)⟩
    rw [cell_of_row _ _ _ _ _ _ hg]
    have e : (cur.toList.take bs.length)[j]? = some (bv c) := by rw [ht]; simp [hj]
    rw [List.getElem?_take, if_pos hlt] at e
    simpa using e
theorem bv_cast (c : UInt8) : bv c = .int .u8 (c.toNat : Int) := rfl
/-- string(bytes) -/
theorem RowB.text {w : World} {v : Value} {bs : Bs} (h : RowB w v bs) : (convert 87 9 v).run Tryz.prog w = .ok (.string ⟨bs.toArray⟩) w := by
  rcases h with ⟨rfl, rfl⟩ | ⟨g, cap, cur, fr, rfl, hg, hf, hl, hm, hc, ht⟩
  · rw [run_convert_bytes_string w 87 9 5 none 0 0 Tryz.underlying87 Tryz.underlying5 Tryz.underlying9]
    simp [Conv.bytesToString, Sem.run_pure]
    rfl
  · refine run_convert_bytes_back w 87 9 5 ⟨g, 0, none⟩ cap bs Tryz.underlying87 Tryz.underlying5 Tryz.underlying9 fun j hj => ?_
    rw [add_addr, Nat.zero_add, cell_of_row _ _ _ _ _ _ hg]
    have e : (cur.toList.take bs.length)[j]? = some (bv bs[j]) := by rw [ht]; simp [hj]
    rw [List.getElem?_take, if_pos hj] at e
    simpa [bv] using e
/-- string(bytes[a:][:n]) -/
theorem part_text {w : World} {g cap : Nat} {bs : Bs} (h : ∀ j c, bs[j]? = some c → w.cell? ⟨g, j, none⟩ = some (bv c)) {a n : Nat} (han : a + n ≤ bs.length) (cap' : Nat) :
    (convert 87 9 (.slice (some ⟨g, a, none⟩) n cap')).run Tryz.prog w = .ok (.string ⟨((bs.drop a).take n).toArray⟩) w := by
  have hl : ((bs.drop a).take n).length = n := by simp; omega
  have := run_convert_bytes_back w 87 9 5 ⟨g, a, none⟩ cap' ((bs.drop a).take n) Tryz.underlying87 Tryz.underlying5 Tryz.underlying9 (P := Tryz.prog) fun j hj => by
    rw [add_addr]
    rw [hl] at hj
    have := h (a + j) bs[a + j] (by simp)
    rw [this, bv]
    simp
  rw [hl] at this
  exact this
/-- bytes[:n] -/
theorem RowB.cut {w : World} {o : Option Addr} {len cap : Nat} {bs : Bs} (h : RowB w (.slice o len cap) bs) {n : Nat} (hn : n ≤ bs.length) : RowB w (.slice o n cap) (bs.take n) := by
  rcases h with ⟨e, rfl⟩ | ⟨g, cap', cur, fr, e, hg, hf, hl, hm, hc, ht⟩
  · injection e with e1 e2 e3
    subst e1 e3
    simp at hn
    subst hn
    exact .inl ⟨rfl, rfl⟩
  · injection e with e1 e2 e3
    subst e1 e2 e3
    have hb : (bs.take n).length = n := by simp; omega
    refine .inr ⟨g, cap, cur, fr, by rw [hb], hg, hf, by omega, hm, hc, ?_⟩
    rw [hb, List.map_take, ← ht, List.take_take, Nat.min_eq_left hn]
theorem setCells_heap (b : Nat) (t : TypeId) (fr : Nat × Nat) : ∀ (vs : List Value) (o : Nat) (w : World) (cur : Array Value), w.heap[b]? = some (.cells cur t fr) → o + vs.length ≤ cur.size →
    (∃ c : Array Value, (w.setCells b o vs).heap[b]? = some (.cells c t fr) ∧ c.toList = cur.toList.take o ++ vs ++ cur.toList.drop (o + vs.length)) ∧ (∀ k, k ≠ b → (w.setCells b o vs).heap[k]? = w.heap[k]?) ∧ (w.setCells b o vs).heap.size = w.heap.size ∧ (w.setCells b o vs).os = w.os ∧ (w.setCells b o vs).tape = w.tape ∧ (w.setCells b o vs).output = w.output
  | [], o, w, cur, h, _ => ⟨⟨cur, h, by simp⟩, fun _ _ => rfl, rfl, rfl, rfl, rfl⟩
  | v :: r, o, w, cur, h, hl => by
    simp at hl
    obtain ⟨⟨c, h1, h2⟩, h3, h4, h5, h6, h7⟩ := setCells_heap b t fr r (o + 1) (w.setCell ⟨b, o, none⟩ v) (cur.setIfInBounds o v) (heap_set w b o v cur t fr h) (by simp; omega)
    refine ⟨⟨c, h1, ?_⟩, fun k hk => ?_, ?_, h5, h6, h7⟩
    · rw [h2]
      have e := list_seg_step cur.toList o v r (by simp; omega)
      simpa [Array.toList_setIfInBounds, Nat.add_assoc, Nat.add_comm 1] using e
    · show ((w.setCell ⟨b, o, none⟩ v).setCells b (o + 1) r).heap[k]? = _
      rw [h3 k hk, Below.heap_setCell _ _ _ _ hk]
    · show ((w.setCell ⟨b, o, none⟩ v).setCells b (o + 1) r).heap.size = _
      rw [h4]
      simp
theorem strCells_bv (s : ByteArray) : Lib.strCells s = (kl s).map bv := rfl
theorem info_u8 : (Tryz.prog.info? 5).map (fun i => (i.zero, i.size, i.bytes)) = some (some (.int .u8 0), 1, 1) := by kernel_rfl
/-- append(bytes, text...) -/
theorem RowB.append {w : World} {v : Value} {bs : Bs} (h : RowB w v bs) (s : ByteArray) (hb : bs.length + s.size ≤ 1099511627776) (ty : TypeId) :
    ∃ v' w', (Builtin.append_ #[87, 9] ty #[v, .string s]).run Tryz.prog w = .ok v' w' ∧ RowB w' v' (bs ++ kl s) ∧ w.grownBy w' v.ownBlock ∧ (v'.ownBlock = v.ownBlock ∨ v'.ownBlock = some w.heap.size) := by
  obtain ⟨i, hi, hz, hs1, hb1⟩ := info_parts info_u8
  have ht := Tryz.underlying87
  have hu := Tryz.underlying9
  have hkl := kl_len s
  have hlen : (bs ++ kl s).length = bs.length + s.size := by simp [hkl]
  have grown : ∀ (old : Nat), ∀ row : Option Nat, RowB (w.drew.alloc (.cells ((bs.map bv).toArray ++ (Lib.strCells s).toArray ++ Builtin.zeroCells (Value.int .u8 0).cells (grownCap w (bs.length + s.size) old 5 - (bs.length + s.size))) 5))
        (.slice (some ⟨w.heap.size, 0, none⟩) (bs.length + s.size) (grownCap w (bs.length + s.size) old 5)) (bs ++ kl s) ∧
      w.grownBy (w.drew.alloc (.cells ((bs.map bv).toArray ++ (Lib.strCells s).toArray ++ Builtin.zeroCells (Value.int .u8 0).cells (grownCap w (bs.length + s.size) old 5 - (bs.length + s.size))) 5)) row := by
    intro old row
    have hge := grownCap_ge w (bs.length + s.size) old 5
    have hcm := grownCap_le_maxLen w (bs.length + s.size) old 5 (by unfold maxLen; omega)
    refine ⟨.inr ⟨w.heap.size, _, _, (0, 0), by rw [hlen], heap_alloc_new w.drew _, .inl rfl, by rw [hlen]; exact hge, hcm, ?_, ?_⟩, ⟨rfl, rfl, rfl, by simp, fun k hk _ => heap_alloc_old w.drew _ k hk⟩⟩
    · have hz1 : (Value.int IntKind.u8 0).cells.size = 1 := rfl
      simp only [Array.size_append, List.size_toArray, size_zeroCells, hz1, bv_len, Lib.strCells_length]
      omega
    · simp only [Array.toList_append, List.append_assoc, strCells_bv]
      rw [← List.append_assoc, ← List.map_append]
      rw [List.take_append_of_le_length (by simp), List.take_of_length_le (by simp)]
  rcases h with ⟨rfl, rfl⟩ | ⟨g, cap, cur, fr, rfl, hg, hf, hl, hm, hc, htk⟩
  · by_cases h0 : s.size = 0
    · have hn : kl s = [] := List.eq_nil_of_length_eq_zero (by rw [hkl]; exact h0)
      refine ⟨.slice none 0 0, w, ?_, .inl ⟨rfl, by rw [hn]; rfl⟩, ⟨rfl, rfl, rfl, Nat.le_refl _, fun _ _ _ => rfl⟩, .inl rfl⟩
      have hf := Lib.run_firstCells_string (P := Tryz.prog) w 1 s
      rw [h0] at hf
      simp [Builtin.append_, run_underlying ht, run_underlying hu, sizeOf, typeInfo, hi, hs1, Builtin.lenOf, h0, hf]
    · have hr := run_append_nil_string (P := Tryz.prog) w 87 9 ty 5 i (.int .u8 0) ht hu hi hz s (by omega) (by omega) (by rw [hb1]; omega)
      have hgr := grown 0 (Value.ownBlock (.slice none 0 0))
      simp only [List.length_nil, Nat.zero_add, List.nil_append, List.map_nil, Array.empty_append] at hgr ⊢
      have e1 : (s.data.map fun b => Value.int .u8 b.toNat) = (Lib.strCells s).toArray := by
        apply Array.ext'
        simp [Lib.strCells]
      rw [e1] at hr
      exact ⟨_, _, hr, hgr.1, hgr.2, .inr rfl⟩
  · by_cases hroom : bs.length + s.size ≤ cap
    · have hst := run_storeCells_cells (P := Tryz.prog) g bs.length (Lib.strCells s) 0 w (fun j hj => by
          rw [cell_of_row _ _ _ _ _ _ hg]
          rw [Lib.strCells_length] at hj
          simp
          omega) (fun j hj => by
          rw [Lib.strCells_length] at hj
          exact frozen_row hg hf (by omega)) (Lib.strCells_oneCell s)
      simp only [Nat.add_zero] at hst
      obtain ⟨⟨c, h1, h2⟩, h3, h4, h5, h6, h7⟩ := setCells_heap g 5 fr (Lib.strCells s) bs.length w cur hg (by rw [Lib.strCells_length]; omega)
      have hcs : c.size = cur.size := by
        rw [← Array.length_toList, h2]
        simp [Lib.strCells_length]
        omega
      refine ⟨.slice (some ⟨g, 0, none⟩) (bs.length + s.size) cap, w.setCells g bs.length (Lib.strCells s), ?_, .inr ⟨g, cap, c, fr, by rw [hlen], h1, by rw [hcs]; exact hf, by omega, hm, by omega, ?_⟩, ⟨h5, h6, h7, by omega, fun k hk hne => h3 k fun e => hne (by simp [Value.ownBlock, e])⟩, .inl rfl⟩
      · have hff := Lib.run_firstCells_string (P := Tryz.prog) w 1 s
        simp [Builtin.append_, run_underlying ht, run_underlying hu, sizeOf, typeInfo, hi, hs1, Builtin.lenOf, hroom, hff, Addr.add_lit, hst]
      · rw [h2, hlen, htk, strCells_bv, ← List.map_append, ← hlen, List.take_append_of_le_length (by simp), List.take_of_length_le (by simp)]
    · have holds : ∀ j u, (bs.map bv)[j]? = some u → w.cell? ((⟨g, 0, none⟩ : Addr).add j) = some u := by
        intro j u hu'
        rw [add_addr, Nat.zero_add, cell_of_row _ _ _ _ _ _ hg]
        rw [← htk, List.getElem?_take] at hu'
        split at hu'
        · simpa using hu'
        · cases hu'
      have hr := Lib.run_append_grow_string (P := Tryz.prog) w 87 9 ty 5 i (.int .u8 0) ht hu hi hz ⟨g, 0, none⟩ bs.length cap (bs.map bv) (by rw [hs1]; simp) holds s (by omega) (by omega) (by rw [hb1]; exact growslice_fits (by omega) (by omega))
      have hgr := grown cap (Value.ownBlock (.slice (some ⟨g, 0, none⟩) bs.length cap))
      exact ⟨_, _, hr, hgr.1, hgr.2, .inr rfl⟩
/-- one byte is another one -/
theorem RowB.setByte {w : World} {g len cap : Nat} {bs : Bs} (h : RowB w (.slice (some ⟨g, 0, none⟩) len cap) bs) {j : Nat} (hj : j < bs.length) (c : UInt8) : RowB (w.setCell ⟨g, j, none⟩ (bv c)) (.slice (some ⟨g, 0, none⟩) len cap) (bs.set j c) := by
  rcases h with ⟨e, _⟩ | ⟨g', cap', cur, fr, e, hg, hf, hl, hm, hc, ht⟩
  · cases e
  · injection e with e1 e2 e3
    injection e1 with e1
    injection e1 with e1
    subst e1 e2 e3
    refine .inr ⟨g, cap, _, fr, by simp, heap_set _ _ _ _ _ _ _ hg, by simpa using hf, by simpa using hl, hm, by simpa using hc, ?_⟩
    simp only [List.length_set, Array.toList_setIfInBounds, List.map_set, ← ht, List.take_set]
end Go.Proofs.YtdmgobffhpgjlaaGreat.Pk
