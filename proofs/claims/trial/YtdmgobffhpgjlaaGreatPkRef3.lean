/-
  Contracts of the document's put, drop and turn: its row of files, made anew.
-/
import Derived.Test.YtdmgobffhpgjlaaGreatPkRef2
import Derived.Laws.Cover1
import Derived.Laws.Strings

namespace Go.Proofs.YtdmgobffhpgjlaaGreat.Pk
open Go.RowKit Go.PlainAid Go.Maps
set_option linter.unusedVariables false
set_option maxRecDepth 20000
set_option linter.unusedSimpArgs false

theorem less_bef : ∀ x y : List UInt8, Op.bytesLess x y = bytesBefore x y
  | [], [] => rfl
  | [], _ :: _ => rfl
  | _ :: _, [] => rfl
  | a :: x, b :: y => by simp [Op.bytesLess, bytesBefore, less_bef x y]
/-- y is above f -/
theorem gtr_bef (y f : Bs) : (!(Op.bytesLess (nmB y).toList (nmB f).toList || (nmB y).toList == (nmB f).toList)) = bytesBefore f y := by
  rw [ByteArray.toList_eq, ByteArray.toList_eq, show (nmB y).data.toList = y from by simp [nmB], show (nmB f).data.toList = f from by simp [nmB], less_bef]
  by_cases e : y = f
  · subst e
    rw [WideAt.bytes_irrefl]
    simp
  · have e' : (y == f) = false := by simpa using e
    rw [e', Bool.or_false]
    cases h1 : bytesBefore y f with
    | true =>
      cases h2 : bytesBefore f y with
      | true =>
        have := WideShapes.bytes_trans _ _ _ h1 h2
        rw [WideAt.bytes_irrefl] at this
        cases this
      | false => rfl
    | false =>
      rcases WideAt.bytes_total _ _ e with c | c
      · rw [h1] at c; cases c
      · rw [c]; rfl
theorem loads_fi {w : World} {ad : Addr} {f : Fi} (h : ∀ c x, (fiV f)[c]? = some x → w.cell? (ad.add c) = some x) : LoadsA Tryz.prog w 65 ad (fiV f).toArray := by
  unfold LoadsA loadVar
  have hl := run_loadCells_list (P := Tryz.prog) w ad (fiV f) (fun j v hv => h j v hv)
  have hz : (sizeOf 65).run Tryz.prog w = .ok 3 w := size_of (by kernel_rfl) w
  rw [show (fiV f).length = 3 from rfl] at hl
  simp only [Sem.run_bind, run_isAgg (P := Tryz.prog) (t := 65) (by kernel_rfl) w, Result.andThen_ok, if_true, hz]
  rw [hl]
  rfl
theorem info_fi : (Tryz.prog.info? 65).map (fun i => (i.zero, i.size, i.bytes)) = some (some (.agg #[.string ⟨#[]⟩, .string ⟨#[]⟩, .int .i64 0]), 3, 40) := by kernel_rfl
/-- out = append(out, files...) -/
theorem wpl_app {w : World} {ops : Array Oper} {rest : List Oper} {o : Oper} {a : Act} {Q : Exit → Act → World → Prop} (N : Nat) {x : Value} {l news : List Fi} (hown : w.ownsRow 0 65 3 x l.length (rowF l)) (hx : ∀ b, x.ownBlock = some b → N ≤ b) (hN : N ≤ w.heap.size)
    (ad : Addr) (c : Nat) (hcells : ∀ j y, (rowF news)[j]? = some y → w.cell? (ad.add j) = some y) (hm : 0 < news.length) (hlen : l.length + news.length ≤ 1000)
    (hgd : o.guard = none) (s y : Operand) (hop : o.op = .call { callee := .builtin .append, args := #[s, y], argTypes := #[61, 61] }) (hs : a.eval s = x) (hy : a.eval y = .slice (some ad) news.length c)
    (hK : ∀ g cap w', w'.ownsRow 0 65 3 (.slice (some ⟨g, 0, none⟩) (l.length + news.length) cap) (l ++ news).length (rowF (l ++ news)) → N ≤ g → Below N w w' → wpList Tryz.prog ops Q rest (a.put o.dst (.slice (some ⟨g, 0, none⟩) (l.length + news.length) cap)) w') :
    wpList Tryz.prog ops Q (o :: rest) a w := by
  obtain ⟨i, hi, hz, hs1, hb1⟩ := info_parts info_fi
  refine wpList_append_lies w hgd s y 61 hop 0 65 i _ 3 40 Tryz.underlying61 hi hz hs1 hb1 rfl (by decide) x l.length (rowF l) hs hown ad news.length c (rowF news) hy (rowF_len news) hcells (rowF_one news) hm (by unfold maxLen; omega) (by omega) (Nat.zero_le _) _ rfl ?_
  intro g cap w' h1 h2 h3 h4
  refine hK g cap w' (by rw [rowF_app, List.length_append]; exact h1) ?_ ?_
  · rcases h3 with c | c
    · exact hx g c
    · omega
  · exact (Below.refl N w).grown h2 hN fun k hk => hx k hk
theorem fi_block {w : World} {B : Nat} {f : Fi} {t : TypeId} {fr : Nat × Nat} (h : w.heap[B]? = some (.cells (fiV f).toArray t fr)) : ∀ j y, (rowF [f])[j]? = some y → w.cell? ((⟨B, 0, none⟩ : Addr).add j) = some y := by
  intro j y hj
  rw [add_addr, Nat.zero_add, cell_of_row _ _ _ _ _ _ h]
  simpa [rowF] using hj
section
variable {w w' : World} {u : Nat} {v : Value} {a mo : Int} {D : Dk}
/-- the document's disk gets another row of files -/
theorem RefAt.setRow {w0 : World} (h : RefAt w0 u v a mo D) (hb : Below w0.heap.size w0 w) {x : Value} {l : List Fi} (hr : w.ownsRow 0 65 3 x l.length (rowF l)) (hx : ∀ b, x.ownBlock = some b → w0.heap.size ≤ b) (ok : { D with L := l }.Ok) :
    RPost w0 (w.setCell ⟨u, 0, none⟩ x) u v { D with L := l } := by
  have hu := in_heap h.head
  refine ⟨x, a, mo, ⟨?_, ?_, h.arm, h.a0, h.a1, h.m1, ok⟩, ?_⟩
  · have hh : w.heap[u]? = some (.cells (refV v a mo D) 63 (0, 0)) := (hb.block u hu).trans h.head
    rw [heap_set _ _ _ _ _ _ _ hh]
    rfl
  · exact orow_same hr fun b hb' => Below.heap_setCell _ _ _ _ fun e => by have := hx b hb'; simp at e; omega
  · refine ⟨hb.os, hb.tape, hb.output, by simpa using hb.size, fun b hb' hz => (Below.heap_setCell _ _ _ _ fun e => hz (.inl e)).trans (hb.block b hb'), fun b hz => ?_⟩
    rcases hz with rfl | hz
    · exact .inl (.inl rfl)
    · exact .inr (hx b hz)
theorem ins_none (f : Fi) : insF f [] = [f] := rfl
theorem ins_here {f y : Fi} {r : List Fi} (h : bytesBefore f.nm y.nm = true) : insF f (y :: r) = f :: y :: r := by rw [insF, if_pos h]
theorem ins_past {f y : Fi} {r : List Fi} (h : bytesBefore f.nm y.nm = false) : insF f (y :: r) = y :: insF f r := by rw [insF, if_neg (by simp [h])]
end
end Go.Proofs.YtdmgobffhpgjlaaGreat.Pk
