/-
  Contracts of the document's put, drop and turn: its row of files, made anew.
  The document's put.
  The document's drop and turn.
  The document's turn.
  The document's Create and Delete.
  The document's Sync.
  The document's Append.
  The document's Read.
  The document's Rename.
-/
import Derived.Test.YtdmgobffhpgjlaaGreatPkRefS
import Derived.Laws.Cover1
import Derived.Laws.Strings
section
namespace Go.Proofs.YtdmgobffhpgjlaaGreat.Pk
open Go.RowKit Go.PlainAid Go.Maps
set_option linter.unusedVariables false
set_option maxRecDepth 20000
set_option linter.unusedSimpArgs false

theorem less_bef : ∀ x y : List UInt8, Op.bytesLess x y = bytesBefore x y
  | [], [] => rfl
  | [], _ :: _ => rfl
  | _ :: _, [] => rfl
  | a :: x, b :: y => by simp [Op.bytesLess, bytesBefore, less_bef x y]
/-- y is above f -/
theorem gtr_bef (y f : Bs) : (!(Op.bytesLess (nmB y).toList (nmB f).toList || (nmB y).toList == (nmB f).toList)) = bytesBefore f y := by
  rw [ByteArray.toList_eq, ByteArray.toList_eq, show (nmB y).data.toList = y from by simp [nmB], show (nmB f).data.toList = f from by simp [nmB], less_bef]
  by_cases e : y = f
  · subst e
    rw [WideAt.bytes_irrefl]
    simp
  · have e' : (y == f) = false := by simpa using e
    rw [e', Bool.or_false]
    cases h1 : bytesBefore y f with
    | true =>
      cases h2 : bytesBefore f y with
      | true =>
        have := WideShapes.bytes_trans _ _ _ h1 h2
        rw [WideAt.bytes_irrefl] at this
        cases this
      | false => rfl
    | false =>
      rcases WideAt.bytes_total _ _ e with c | c
      · rw [h1] at c; cases c
      · rw [c]; rfl
theorem loads_fi {w : World} {ad : Addr} {f : Fi} (h : ∀ c x, (fiV f)[c]? = some x → w.cell? (ad.add c) = some x) : LoadsA Tryz.prog w 65 ad (fiV f).toArray := by
  unfold LoadsA loadVar
  have hl := run_loadCells_list (P := Tryz.prog) w ad (fiV f) (fun j v hv => h j v hv)
  have hz : (sizeOf 65).run Tryz.prog w = .ok 3 w := size_of (by kernel_rfl) w
  rw [show (fiV f).length = 3 from rfl] at hl
  simp only [Sem.run_bind, run_isAgg (P := Tryz.prog) (t := 65) (by kernel_rfl) w, Result.andThen_ok, if_true, hz]
  rw [hl]
  rfl
theorem info_fi : (Tryz.prog.info? 65).map (fun i => (i.zero, i.size, i.bytes)) = some (some (.agg #[.string ⟨#[]⟩, .string ⟨#[]⟩, .int .i64 0]), 3, 40) := by kernel_rfl
/-- out = append(out, files...) -/
theorem wpl_app {w : World} {ops : Array Oper} {rest : List Oper} {o : Oper} {a : Act} {Q : Exit → Act → World → Prop} (N : Nat) {x : Value} {l news : List Fi} (hown : w.ownsRow 0 65 3 x l.length (rowF l)) (hx : ∀ b, x.ownBlock = some b → N ≤ b) (hN : N ≤ w.heap.size)
    (ad : Addr) (c : Nat) (hcells : ∀ j y, (rowF news)[j]? = some y → w.cell? (ad.add j) = some y) (hm : 0 < news.length) (hlen : l.length + news.length ≤ 1000)
    (hgd : o.guard = none) (s y : Operand) (hop : o.op = .call { callee := .builtin .append, args := #[s, y], argTypes := #[61, 61] }) (hs : a.eval s = x) (hy : a.eval y = .slice (some ad) news.length c)
    (hK : ∀ g cap w', w'.ownsRow 0 65 3 (.slice (some ⟨g, 0, none⟩) (l.length + news.length) cap) (l ++ news).length (rowF (l ++ news)) → N ≤ g → Below N w w' → wpList Tryz.prog ops Q rest (a.put o.dst (.slice (some ⟨g, 0, none⟩) (l.length + news.length) cap)) w') :
    wpList Tryz.prog ops Q (o :: rest) a w := by
  obtain ⟨i, hi, hz, hs1, hb1⟩ := info_parts info_fi
  refine wpList_append_lies w hgd s y 61 hop 0 65 i _ 3 40 Tryz.underlying61 hi hz hs1 hb1 rfl (by decide) x l.length (rowF l) hs hown ad news.length c (rowF news) hy (rowF_len news) hcells (rowF_one news) hm (by unfold maxLen; omega) (by omega) (Nat.zero_le _) _ rfl ?_
  intro g cap w' h1 h2 h3 h4
  refine hK g cap w' (by rw [rowF_app, List.length_append]; exact h1) ?_ ?_
  · rcases h3 with c | c
    · exact hx g c
    · omega
  · exact (Below.refl N w).grown h2 hN fun k hk => hx k hk
theorem fi_block {w : World} {B : Nat} {f : Fi} {t : TypeId} {fr : Nat × Nat} (h : w.heap[B]? = some (.cells (fiV f).toArray t fr)) : ∀ j y, (rowF [f])[j]? = some y → w.cell? ((⟨B, 0, none⟩ : Addr).add j) = some y := by
  intro j y hj
  rw [add_addr, Nat.zero_add, cell_of_row _ _ _ _ _ _ h]
  simpa [rowF] using hj
section
variable {w w' : World} {u : Nat} {v : Value} {a mo : Int} {D : Dk}
/-- the document's disk gets another row of files -/
theorem RefAt.setRow {w0 : World} (h : RefAt w0 u v a mo D) (hb : Below w0.heap.size w0 w) {x : Value} {l : List Fi} (hr : w.ownsRow 0 65 3 x l.length (rowF l)) (hx : ∀ b, x.ownBlock = some b → w0.heap.size ≤ b) (ok : { D with L := l }.Ok) :
    RPost w0 (w.setCell ⟨u, 0, none⟩ x) u v { D with L := l } := by
  have hu := in_heap h.head
  refine ⟨x, a, mo, ⟨?_, ?_, h.arm, h.a0, h.a1, h.m1, ok⟩, ?_⟩
  · have hh : w.heap[u]? = some (.cells (refV v a mo D) 63 (0, 0)) := (hb.block u hu).trans h.head
    rw [heap_set _ _ _ _ _ _ _ hh]
    rfl
  · exact orow_same hr fun b hb' => Below.heap_setCell _ _ _ _ fun e => by have := hx b hb'; simp at e; omega
  · refine ⟨hb.os, hb.tape, hb.output, by simpa using hb.size, fun b hb' hz => (Below.heap_setCell _ _ _ _ fun e => hz (.inl e)).trans (hb.block b hb'), fun b hz => ?_⟩
    rcases hz with rfl | hz
    · exact .inl (.inl rfl)
    · exact .inr (hx b hz)
theorem ins_none (f : Fi) : insF f [] = [f] := rfl
theorem ins_here {f y : Fi} {r : List Fi} (h : bytesBefore f.nm y.nm = true) : insF f (y :: r) = f :: y :: r := by rw [insF, if_pos h]
theorem ins_past {f y : Fi} {r : List Fi} (h : bytesBefore f.nm y.nm = false) : insF f (y :: r) = y :: insF f r := by rw [insF, if_neg (by simp [h])]
end
end Go.Proofs.YtdmgobffhpgjlaaGreat.Pk
end

section
namespace Go.Proofs.YtdmgobffhpgjlaaGreat.Pk
open Go.RowKit Go.PlainAid Go.Maps
set_option linter.unusedVariables false
set_option maxRecDepth 20000
set_option linter.unusedSimpArgs false

def PutInv (f : Fi) (l : List Fi) (dn : Bool) (out : List Fi) (k : Nat) : Prop := (dn = false ∧ out = l.take k ∧ insF f l = l.take k ++ insF f (l.drop k)) ∨ (dn = true ∧ insF f l = out ++ l.drop k ∧ out.length = k + 1)
structure PutAt (w1 wr : World) (f : Fi) (l : List Fi) (x : Value) (dn : Bool) (k : Nat) : Prop where
  is : ∃ out, wr.ownsRow 0 65 3 x out.length (rowF out) ∧ (∀ b, x.ownBlock = some b → w1.heap.size ≤ b) ∧ Below w1.heap.size w1 wr ∧ PutInv f l dn out k
theorem drop_at {l : List Fi} {k : Nat} {y : Fi} (h : l[k]? = some y) : l.drop k = y :: l.drop (k + 1) := by
  have hk := (List.getElem?_eq_some_iff.1 h).1
  rw [List.drop_eq_getElem_cons hk, (List.getElem?_eq_some_iff.1 h).2]
theorem take_at {l : List Fi} {k : Nat} {y : Fi} (h : l[k]? = some y) : l.take (k + 1) = l.take k ++ [y] := by
  rw [List.take_add_one, h]
  rfl
theorem put_past {f y : Fi} {l out : List Fi} {k : Nat} (h : PutInv f l false out k) (hy : l[k]? = some y) (hb : bytesBefore f.nm y.nm = false) : PutInv f l false (out ++ [y]) (k + 1) := by
  rcases h with ⟨_, h1, h2⟩ | ⟨h, _⟩
  · refine .inl ⟨rfl, by rw [h1, take_at hy], ?_⟩
    rw [h2, drop_at hy, ins_past hb, take_at hy]
    simp
  · cases h
theorem put_here {f y : Fi} {l out : List Fi} {k : Nat} (h : PutInv f l false out k) (hy : l[k]? = some y) (hb : bytesBefore f.nm y.nm = true) : PutInv f l true (out ++ [f] ++ [y]) (k + 1) := by
  rcases h with ⟨_, h1, h2⟩ | ⟨h, _⟩
  · refine .inr ⟨rfl, ?_, ?_⟩
    · rw [h2, drop_at hy, ins_here hb, h1]
      simp
    · have := (List.getElem?_eq_some_iff.1 hy).1
      rw [h1]
      simp
      omega
  · cases h
theorem put_done {f y : Fi} {l out : List Fi} {k : Nat} (h : PutInv f l true out k) (hy : l[k]? = some y) : PutInv f l true (out ++ [y]) (k + 1) := by
  rcases h with ⟨h, _⟩ | ⟨_, h2, h3⟩
  · cases h
  · refine .inr ⟨rfl, ?_, by simp; omega⟩
    rw [h2, drop_at hy]
    simp
theorem put_len {f : Fi} {l out : List Fi} {k : Nat} {dn : Bool} (h : PutInv f l dn out k) (hk : k ≤ l.length) : out.length ≤ k + 1 := by
  rcases h with ⟨_, h1, _⟩ | ⟨_, _, h3⟩
  · rw [h1]; simp; omega
  · omega
theorem orow_form {w : World} {x : Value} {n : Nat} {xs : List Value} (h : w.ownsRow 0 65 3 x n xs) : ∃ o cap, x = .slice o n cap := by
  rcases h.2 with ⟨rfl, rfl⟩ | ⟨g, cap, cur, rfl, _⟩
  · exact ⟨none, 0, rfl⟩
  · exact ⟨_, cap, rfl⟩
section
variable {w w' : World} {u : Nat} {v : Value} {a mo : Int} {D : Dk}
set_option maxRecDepth 100000 in
set_option maxHeartbeats 2000000 in
theorem rput_any (h : RefAt w u v a mo D) (f : Fi) (ok : { D with L := insF f D.L }.Ok) :
    Calls Tryz.prog 69 #[.pointer (some ⟨u, 0, none⟩), .agg #[.string (nmB f.nm), .string (nmB f.bs), .int .i64 (f.sf : Int)]] w fun e w' => e = .returned (.tuple #[]) ∧ RPost w w' u v { D with L := insF f D.L } := by
  have h1 := h.alloc (.cells (fiV f).toArray 65)
  have hB := heap_alloc_new w (.cells (fiV f).toArray 65)
  have hcn := h.ok.cnt
  have FIN : ∀ wr x, Below (w.alloc (.cells (fiV f).toArray 65)).heap.size (w.alloc (.cells (fiV f).toArray 65)) wr → wr.ownsRow 0 65 3 x (insF f D.L).length (rowF (insF f D.L)) → (∀ b, x.ownBlock = some b → (w.alloc (.cells (fiV f).toArray 65)).heap.size ≤ b) →
      RPost w (wr.setCell ⟨u, 0, none⟩ x) u v { D with L := insF f D.L } := by
    intro wr x hb hr hx
    have hb' : Below w.heap.size w wr := ((Below.refl _ w).alloc (Nat.le_refl _) _).trans (hb.mono (by simp))
    exact h.setRow hb' hr (fun b hb => by have := hx b hb; simp at this; omega) ok
  have FH := Lib.hid FIN
  obtain ⟨o, cap, rfl, hf⟩ := h1.form
  have C0 : ∀ wr, Below (w.alloc (.cells (fiV f).toArray 65)).heap.size (w.alloc (.cells (fiV f).toArray 65)) wr → RefAt wr u (.slice o D.L.length cap) a mo D := fun wr hb => h1.kept fun b z => hb.block b (h1.lt z)
  have LF : ∀ wr, Below (w.alloc (.cells (fiV f).toArray 65)).heap.size (w.alloc (.cells (fiV f).toArray 65)) wr → LoadsA Tryz.prog wr 65 ⟨w.heap.size, 0, none⟩ (fiV f).toArray ∧ wr.cell? ⟨w.heap.size, 0, none⟩ = some (.string (nmB f.nm)) := fun wr hb => by
    have e : ∀ c x, (fiV f)[c]? = some x → wr.cell? ⟨w.heap.size, c, none⟩ = some x := fun c x hx => by
      rw [hb.cell (by simp), cell_of_row _ _ _ _ _ _ hB]
      simpa using hx
    exact ⟨loads_fi fun c x hx => by rw [add_addr, Nat.zero_add]; exact e c x hx, e 0 _ rfl⟩
  have CH := Lib.hid C0
  have LH := Lib.hid LF
  clear h h1 hB FIN hf C0 LF ok
  generalize hw1 : w.alloc (.cells (fiV f).toArray 65) = w1 at *
  have sz1 : w1.heap.size = w.heap.size + 1 := by rw [← hw1]; simp
  have hw1' : w.alloc (.cells #[.string (nmB f.nm), .string (nmB f.bs), .int .i64 (f.sf : Int)] 65) = w1 := hw1
  have S0 : PutAt w1 (w1.alloc (.cells #[] 65)) f D.L (.slice (some ⟨w1.heap.size, 0, none⟩) 0 0) false 0 :=
    ⟨[], World.ownsRow_made w1 #[] 0 (Nat.zero_le _) (by unfold maxLen; omega) rfl, by simp [Value.ownBlock], (Below.refl _ _).alloc (Nat.le_refl _) _, .inl ⟨rfl, by simp, by simp⟩⟩
  have SH := Lib.hid S0
  clear S0 hw1
  generalize hB0 : w.heap.size = B0 at *
  go_enter Tryz.func69, Tryz.ntmps69
  go_wp2_with fail
  clear hw1' hB0
  rw [sz1] at SH
  go_loopw [4, 5, 6] (fun x d i wr => ∃ (k : Nat) (dn : Bool), k ≤ D.L.length ∧ d = .bool dn ∧ i = .int .i64 k ∧ PutAt w1 wr f D.L x dn k) (fun _ _ i _ => D.L.length - (intOf i).toNat)
  case atStart => exact ⟨0, false, Nat.zero_le _, rfl, rfl, SH.out⟩
  case round =>
    obtain ⟨k, dn, hk, rfl, rfl, PA⟩ := hrel
    clear SH
    obtain ⟨out, hown0, hx, hb0, inv⟩ := PA.is
    have ol := put_len inv hk
    obtain ⟨ox, cx, rfl⟩ := orow_form hown0
    have R0 := CH.out wr hb0
    have c0 := R0.cell 0
    simp [refV] at c0
    clear PA
    have HO := Lib.hid hown0
    have HB := Lib.hid hb0
    have IV := Lib.hid inv
    clear hown0 hb0 inv
    by_cases hlt : k < D.L.length
    · have l1 : (k : Int) < (D.L.length : Int) := by omega
      obtain ⟨y, hy⟩ : ∃ y, D.L[k]? = some y := ⟨_, List.getElem?_eq_getElem hlt⟩
      obtain ⟨_, _, e7, hc7⟩ := R0.form
      injection e7 with e7 _ _
      subst e7
      obtain ⟨gy, rfl, cy⟩ := hc7 k y hy
      have ny := cy 0 _ rfl
      simp only [Nat.add_zero] at ny
      have nf := (LH.out wr HB.out).2
      clear R0 hc7 cy
      cases dn with
      | true =>
        go_wp2_with fail
        go_quiet (fail)
        have hown := HO.out.kept ⟨rfl, rfl, rfl, Nat.le_refl _, fun _ _ _ => rfl⟩ (row := none) (w' := wr.drewN nq) (by cases hv : Value.ownBlock _ <;> simp)
        have hb := HB.out.trans (⟨rfl, rfl, rfl, Nat.le_refl _, fun _ _ => rfl⟩ : Below w1.heap.size wr (wr.drewN nq))
        generalize wr.drewN nq = wq at hown hb ⊢
        clear HO HB
        obtain ⟨LF0, n1⟩ := LH.out wq hb
        have LF1 : LoadsA Tryz.prog wq 65 ⟨B0, 0, none⟩ #[.string (nmB f.nm), .string (nmB f.bs), .int .i64 (f.sf : Int)] := LF0
        clear LF0
        have RQ := CH.out wq hb
        have c0 := RQ.cell 0
        simp [refV] at c0
        obtain ⟨_, _, e9, hc9⟩ := RQ.form
        injection e9 with e9 _ _
        subst e9
        obtain ⟨g9, e8, cy9⟩ := hc9 k y hy
        injection e8 with e8
        injection e8 with e8
        subst e8
        have LY : LoadsA Tryz.prog wq 65 ⟨gy, k * 3, none⟩ #[.string (nmB y.nm), .string (nmB y.bs), .int .i64 (y.sf : Int)] := loads_fi fun c x hx => by rw [add_addr]; exact cy9 c x hx
        clear RQ hc9 cy9
        have NX := Lib.hid (put_done IV.out hy)
        clear ny nf n1 LF1
        go_wp2_with (first | refine wpl_loadA LY rfl rfl rfl ?_ | (at_builtin; refine wpl_app w1.heap.size (hown.alloc (.cells #[.string (nmB y.nm), .string (nmB y.bs), .int .i64 (y.sf : Int)] 65)) hx (by have := hb.size; simp; omega) ⟨wq.heap.size, 0, none⟩ 1 (news := [y]) (fi_block (heap_alloc_new wq _)) (by simp) (by simp; omega) rfl _ _ rfl rfl rfl ?_; intro g3 cap3 w3 hown3 hg3 hb3))
        go_roundw
        case rel => exact ⟨k + 1, true, by omega, rfl, by go_num, ⟨_, by simpa using hown3, by simp [Value.ownBlock]; exact hg3, hb.trans (((Below.refl _ _).alloc hb.size _).trans hb3), NX.out⟩⟩
        case measure => simp [intOf]; omega
      | false =>
        cases hbf : bytesBefore f.nm y.nm with
        | false =>
          have gt := gtr_bef y.nm f.nm
          rw [hbf] at gt
          have NX := Lib.hid (put_past IV.out hy hbf)
          clear hbf
          go_wp2_with fail
          go_quiet (fail)
          have hown := HO.out.kept ⟨rfl, rfl, rfl, Nat.le_refl _, fun _ _ _ => rfl⟩ (row := none) (w' := wr.drewN nq) (by cases hv : Value.ownBlock _ <;> simp)
          have hb := HB.out.trans (⟨rfl, rfl, rfl, Nat.le_refl _, fun _ _ => rfl⟩ : Below w1.heap.size wr (wr.drewN nq))
          generalize wr.drewN nq = wq at hown hb ⊢
          clear HO HB
          obtain ⟨LF0, n1⟩ := LH.out wq hb
          have LF1 : LoadsA Tryz.prog wq 65 ⟨B0, 0, none⟩ #[.string (nmB f.nm), .string (nmB f.bs), .int .i64 (f.sf : Int)] := LF0
          clear LF0
          have RQ := CH.out wq hb
          have c0 := RQ.cell 0
          simp [refV] at c0
          obtain ⟨_, _, e9, hc9⟩ := RQ.form
          injection e9 with e9 _ _
          subst e9
          obtain ⟨g9, e8, cy9⟩ := hc9 k y hy
          injection e8 with e8
          injection e8 with e8
          subst e8
          have LY : LoadsA Tryz.prog wq 65 ⟨gy, k * 3, none⟩ #[.string (nmB y.nm), .string (nmB y.bs), .int .i64 (y.sf : Int)] := loads_fi fun c x hx => by rw [add_addr]; exact cy9 c x hx
          clear RQ hc9 cy9
          clear ny nf n1 LF1 gt
          go_wp2_with (first | refine wpl_loadA LY rfl rfl rfl ?_ | (at_builtin; refine wpl_app w1.heap.size (hown.alloc (.cells #[.string (nmB y.nm), .string (nmB y.bs), .int .i64 (y.sf : Int)] 65)) hx (by have := hb.size; simp; omega) ⟨wq.heap.size, 0, none⟩ 1 (news := [y]) (fi_block (heap_alloc_new wq _)) (by simp) (by simp; omega) rfl _ _ rfl rfl rfl ?_; intro g3 cap3 w3 hown3 hg3 hb3))
          go_roundw
          case rel => exact ⟨k + 1, false, by omega, rfl, by go_num, ⟨_, by simpa using hown3, by simp [Value.ownBlock]; exact hg3, hb.trans (((Below.refl _ _).alloc hb.size _).trans hb3), NX.out⟩⟩
          case measure => simp [intOf]; omega
        | true =>
          have gt := gtr_bef y.nm f.nm
          rw [hbf] at gt
          have NX := Lib.hid (put_here IV.out hy hbf)
          clear hbf
          go_wp2_with fail
          go_quiet (fail)
          have hown := HO.out.kept ⟨rfl, rfl, rfl, Nat.le_refl _, fun _ _ _ => rfl⟩ (row := none) (w' := wr.drewN nq) (by cases hv : Value.ownBlock _ <;> simp)
          have hb := HB.out.trans (⟨rfl, rfl, rfl, Nat.le_refl _, fun _ _ => rfl⟩ : Below w1.heap.size wr (wr.drewN nq))
          generalize wr.drewN nq = wq at hown hb ⊢
          clear HO HB
          obtain ⟨LF0, n1⟩ := LH.out wq hb
          have LF1 : LoadsA Tryz.prog wq 65 ⟨B0, 0, none⟩ #[.string (nmB f.nm), .string (nmB f.bs), .int .i64 (f.sf : Int)] := LF0
          clear LF0
          clear ny nf n1 gt
          go_upto_region 8 with (first | refine wpl_loadA LF1 rfl rfl rfl ?_ | (at_builtin; refine wpl_app w1.heap.size (hown.alloc (.cells #[.string (nmB f.nm), .string (nmB f.bs), .int .i64 (f.sf : Int)] 65)) hx (by have := hb.size; simp; omega) ⟨wq.heap.size, 0, none⟩ 1 (news := [f]) (fi_block (heap_alloc_new wq _)) (by simp) (by simp; omega) rfl _ _ rfl rfl rfl ?_; intro g1 cap1 w2 hown2 hg1 hb2))
          have hbt := hb.trans (((Below.refl _ _).alloc hb.size _).trans hb2)
          have hx2 : ∀ b, Value.ownBlock (.slice (some ⟨g1, 0, none⟩) (out.length + [f].length) cap1) = some b → w1.heap.size ≤ b := by simp [Value.ownBlock]; exact hg1
          clear hb2 hb hown hx
          obtain ⟨LF0, n1⟩ := LH.out w2 hbt
          have LF1 : LoadsA Tryz.prog w2 65 ⟨B0, 0, none⟩ #[.string (nmB f.nm), .string (nmB f.bs), .int .i64 (f.sf : Int)] := LF0
          clear LF0
          have RQ := CH.out w2 hbt
          have c0 := RQ.cell 0
          simp [refV] at c0
          obtain ⟨_, _, e9, hc9⟩ := RQ.form
          injection e9 with e9 _ _
          subst e9
          obtain ⟨g9, e8, cy9⟩ := hc9 k y hy
          injection e8 with e8
          injection e8 with e8
          subst e8
          have LY : LoadsA Tryz.prog w2 65 ⟨gy, k * 3, none⟩ #[.string (nmB y.nm), .string (nmB y.bs), .int .i64 (y.sf : Int)] := loads_fi fun c x hx => by rw [add_addr]; exact cy9 c x hx
          clear RQ hc9 cy9
          clear n1 LF1
          go_wp2_with (first | refine wpl_loadA LY rfl rfl rfl ?_ | (at_builtin; refine wpl_app w1.heap.size (hown2.alloc (.cells #[.string (nmB y.nm), .string (nmB y.bs), .int .i64 (y.sf : Int)] 65)) hx2 (by have := hbt.size; simp; omega) ⟨w2.heap.size, 0, none⟩ 1 (news := [y]) (fi_block (heap_alloc_new w2 _)) (by simp) (by simp; omega) rfl _ _ rfl rfl rfl ?_; intro g3 cap3 w3 hown3 hg3 hb3))
          go_roundw
          case rel => exact ⟨k + 1, true, by omega, rfl, by go_num, ⟨out ++ [f] ++ [y], by first | exact hown3 | simpa [Nat.add_assoc] using hown3, by simp [Value.ownBlock]; exact hg3, hbt.trans (((Below.refl _ _).alloc hbt.size _).trans hb3), NX.out⟩⟩
          case measure => simp [intOf]; omega
    · have l1 : ¬ (k : Int) < (D.L.length : Int) := by omega
      have ek : k = D.L.length := by omega
      have f0 := R0.frozen 0
      have hd0 : D.L.drop k = [] := List.drop_of_length_le (by omega)
      cases dn with
      | true =>
        have eo : insF f D.L = out := by
          rcases IV.out with ⟨e, _⟩ | ⟨_, e, _⟩
          · cases e
          · rw [e, hd0, List.append_nil]
        have FN := Lib.hid (FH.out wr _ HB.out (by rw [eo]; exact HO.out) hx)
        clear R0 eo hd0 IV HO HB
        go_wp2
        exact bodyPost_end (v := .tuple #[]) (by simp [results, Tryz.results69, go_sem]) rfl ⟨rfl, FN.out⟩
      | false =>
        have eo : insF f D.L = out ++ [f] := by
          rcases IV.out with ⟨_, e1, e2⟩ | ⟨e, _⟩
          · rw [e2, hd0, e1, ins_none]
          · cases e
        have hown := HO.out
        have hb := HB.out
        obtain ⟨LF0, n1⟩ := LH.out wr hb
        have LF1 : LoadsA Tryz.prog wr 65 ⟨B0, 0, none⟩ #[.string (nmB f.nm), .string (nmB f.bs), .int .i64 (f.sf : Int)] := LF0
        have KP : ∀ w2, Below w1.heap.size w1 w2 → w2.cell? ⟨u, 0, none⟩ = some (.slice o D.L.length cap) ∧ w2.frozen? ⟨u, 0, none⟩ = false := fun w2 hb => by
          have r := CH.out w2 hb
          have c := r.cell 0
          simp [refV] at c
          exact ⟨c, r.frozen 0⟩
        have KH := Lib.hid KP
        have EO := Lib.hid eo
        clear LF0 n1 R0 hd0 IV HO HB KP eo
        go_wp2_with (first | refine wpl_loadA LF1 rfl rfl rfl ?_ | (at_builtin; refine wpl_app w1.heap.size (hown.alloc (.cells #[.string (nmB f.nm), .string (nmB f.bs), .int .i64 (f.sf : Int)] 65)) hx (by have := hb.size; simp; omega) ⟨wr.heap.size, 0, none⟩ 1 (news := [f]) (fi_block (heap_alloc_new wr _)) (by simp) (by simp; omega) rfl _ _ rfl rfl rfl ?_; intro g1 cap1 w2 hown2 hg1 hb2; have hbt := hb.trans (((Below.refl _ _).alloc hb.size _).trans hb2); obtain ⟨d0, d1⟩ := KH.out w2 hbt))
        exact bodyPost_end (v := .tuple #[]) (by simp [results, Tryz.results69, go_sem]) rfl ⟨rfl, FH.out w2 _ hbt (by rw [EO.out]; simpa using hown2) (by simp [Value.ownBlock]; exact hg1)⟩
end
end Go.Proofs.YtdmgobffhpgjlaaGreat.Pk
end

section
namespace Go.Proofs.YtdmgobffhpgjlaaGreat.Pk
open Go.RowKit Go.PlainAid Go.Maps
set_option linter.unusedVariables false
set_option maxRecDepth 20000
set_option linter.unusedSimpArgs false

theorem wpl_appA {w : World} {ops : Array Oper} {rest : List Oper} {o : Oper} {a : Act} {Q : Exit → Act → World → Prop} (N : Nat) {x : Value} {l news : List Fi} (hown : w.ownsRow 0 65 3 x l.length (rowF l)) (hx : ∀ b, x.ownBlock = some b → N ≤ b) (hN : N ≤ w.heap.size)
    (ad : Addr) (m c : Nat) (hm : m = news.length) (hcells : ∀ j y, (rowF news)[j]? = some y → w.cell? (ad.add j) = some y) (hlen : l.length + news.length ≤ 1000)
    (hgd : o.guard = none) (s y : Operand) (hop : o.op = .call { callee := .builtin .append, args := #[s, y], argTypes := #[61, 61] }) (hs : a.eval s = x) (hy : a.eval y = .slice (some ad) m c)
    (hK : ∀ o' cap w', w'.ownsRow 0 65 3 (.slice o' (l ++ news).length cap) (l ++ news).length (rowF (l ++ news)) → (∀ b, Value.ownBlock (.slice o' (l ++ news).length cap) = some b → N ≤ b) → Below N w w' → wpList Tryz.prog ops Q rest (a.put o.dst (.slice o' (l ++ news).length cap)) w') :
    wpList Tryz.prog ops Q (o :: rest) a w := by
  subst hm
  obtain ⟨i, hi, hz, hs1, hb1⟩ := info_parts info_fi
  refine wpList_append_own_at w hgd s y 61 hop 0 65 i _ 3 40 Tryz.underlying61 hi hz hs1 hb1 rfl (by decide) x l.length (rowF l) hs hown ad news.length c (rowF news) hy (rowF_len news) hcells (rowF_one news) (by unfold maxLen; omega) (by omega) (Nat.zero_le _) ?_
  intro v' w' h1 h2 _ h3
  rw [← rowF_app, ← List.length_append] at h1
  obtain ⟨o', cap, rfl⟩ := orow_form h1
  refine hK o' cap w' h1 ?_ ((Below.refl N w).grown h2 hN fun k hk => hx k hk)
  intro b hb
  rcases h3 with c | c
  · exact hx b (by rw [← c]; exact hb)
  · rw [c] at hb
    injection hb with hb
    omega
theorem size_fi (w : World) : (sizeOf 65).run Tryz.prog w = .ok 3 w := size_of (by kernel_rfl) w
theorem fcut_to (w : World) (g n cap k : Nat) (hk : k ≤ cap) :
    (Instr.sliceAt 61 (.slice (some ⟨g, 0, none⟩) n cap) none (some (.int .i64 (k : Int))) none).run Tryz.prog w = .ok (.slice (some ⟨g, 0, none⟩) k cap) w := by
  have h0 : (0 : Int) ≤ (k : Int) := by omega
  have h1 : (k : Int) ≤ (cap : Int) := by omega
  have hz := size_fi w
  by_cases h2 : cap = 0
  · subst h2
    obtain rfl : k = 0 := by omega
    simp [Instr.sliceAt, Instr.slice, run_underlying Tryz.underlying61, Instr.sliceBounds, run_sliceBound, hz]
  · simp [Instr.sliceAt, Instr.slice, run_underlying Tryz.underlying61, Instr.sliceBounds, run_sliceBound, hz, h0, h1, h2, add_addr]
theorem fcut_from (w : World) (g n cap k : Nat) (hk : k ≤ n) :
    (Instr.sliceAt 61 (.slice (some ⟨g, 0, none⟩) n cap) (some (.int .i64 (k : Int))) none none).run Tryz.prog w = .ok (.slice (some ⟨g, if cap = k then 0 else k * 3, none⟩) (n - k) (cap - k)) w := by
  have h0 : (0 : Int) ≤ (k : Int) := by omega
  have h1 : (k : Int) ≤ (n : Int) := by omega
  have hz := size_fi w
  by_cases h2 : cap = k
  · simp [Instr.sliceAt, Instr.slice, run_underlying Tryz.underlying61, Instr.sliceBounds, run_sliceBound, hz, h0, h1, h2]
  · simp [Instr.sliceAt, Instr.slice, run_underlying Tryz.underlying61, Instr.sliceBounds, run_sliceBound, hz, h0, h1, h2, add_addr]
theorem del_at {l : List Fi} (h : l.Pairwise fun x y => x.nm ≠ y.nm) {i : Nat} {f : Fi} (hi : l[i]? = some f) : delF f.nm l = l.take i ++ l.drop (i + 1) := by
  induction l generalizing i with
  | nil => simp at hi
  | cons x r ih =>
    obtain ⟨h1, h2⟩ := List.pairwise_cons.1 h
    rcases i with _ | i
    · simp at hi
      subst hi
      have := del_none (k := x.nm) (l := r) fun y hy => (h1 y hy).symm
      simp only [delF, List.filter_cons, beq_self_eq_true, Bool.not_true, Bool.false_eq_true, if_false] at this ⊢
      rw [this]
      simp
    · simp at hi
      have hm := List.mem_of_getElem? hi
      have e : delF f.nm (x :: r) = x :: delF f.nm r := by
        simp only [delF, List.filter_cons]
        rw [if_pos (by simpa using h1 f hm)]
      rw [e, ih h2 hi]
      simp
theorem upd_at {l : List Fi} (h : l.Pairwise fun x y => x.nm ≠ y.nm) {i : Nat} {f g : Fi} (hi : l[i]? = some f) : updF f.nm g l = l.set i g := by
  induction l generalizing i with
  | nil => simp at hi
  | cons x r ih =>
    obtain ⟨h1, h2⟩ := List.pairwise_cons.1 h
    rcases i with _ | i
    · simp at hi
      subst hi
      have := upd_none (k := x.nm) (g := g) (l := r) fun y hy => (h1 y hy).symm
      simp only [updF, List.map_cons, beq_self_eq_true, if_true] at this ⊢
      rw [this]
      simp
    · simp at hi
      have hm := List.mem_of_getElem? hi
      have e : updF f.nm g (x :: r) = x :: updF f.nm g r := by
        simp only [updF, List.map_cons]
        rw [if_neg (by simpa using h1 f hm)]
      rw [e, ih h2 hi]
      simp
section
variable {w w' : World} {u : Nat} {v : Value} {a mo : Int} {D : Dk}
set_option maxRecDepth 100000 in
set_option maxHeartbeats 2000000 in
theorem rdrop_any (h : RefAt w u v a mo D) {i : Nat} {f : Fi} (hi : D.L[i]? = some f) :
    Calls Tryz.prog 68 #[.pointer (some ⟨u, 0, none⟩), .int .i64 (i : Int)] w fun e w' => e = .returned (.tuple #[]) ∧ RPost w w' u v { D with L := delF f.nm D.L } := by
  have hlt := (List.getElem?_eq_some_iff.1 hi).1
  have hcn := h.ok.cnt
  have ed := del_at h.ok.up.ne hi
  have FIN : ∀ wr x, Below w.heap.size w wr → wr.ownsRow 0 65 3 x (delF f.nm D.L).length (rowF (delF f.nm D.L)) → (∀ b, x.ownBlock = some b → w.heap.size ≤ b) → RPost w (wr.setCell ⟨u, 0, none⟩ x) u v { D with L := delF f.nm D.L } :=
    fun wr x hb hr hx => h.setRow hb hr hx (h.ok.del f.nm)
  rw [ed] at FIN ⊢
  have FH := Lib.hid FIN
  have KP : ∀ w2, Below w.heap.size w w2 → RefAt w2 u v a mo D := fun w2 hb => h.kept fun b z => hb.block b (h.lt z)
  have KH := Lib.hid KP
  obtain ⟨g, cap, ev, hcap⟩ : ∃ g cap, v = .slice (some ⟨g, 0, none⟩) D.L.length cap ∧ D.L.length ≤ cap := by
    rcases h.row.2 with ⟨_, h0⟩ | ⟨g, cap, cur, e, _, _, hn, _⟩
    · omega
    · exact ⟨g, cap, e, hn⟩
  subst ev
  have CL : ∀ w2, Below w.heap.size w w2 → ∀ j y, (rowF D.L)[j]? = some y → w2.cell? ⟨g, j, none⟩ = some y := fun w2 hb j y hj => by
    have := (KP w2 hb).row.cells (g := g) rfl j y hj
    rw [add_addr, Nat.zero_add] at this
    exact this
  have CH := Lib.hid CL
  have c0 := h.cell 0
  have z0 := h.frozen 0
  simp [refV] at c0
  have S1 := fun w2 => fcut_to w2 g D.L.length cap i (by omega)
  have S2 := fun w2 => fcut_from w2 g D.L.length cap (i + 1) (by omega)
  have bw : Below w.heap.size w (w.alloc (.cells #[] 65)) := (Below.refl _ _).alloc (Nat.le_refl _) _
  have C1 : ∀ j y, (rowF (D.L.take i))[j]? = some y → (w.alloc (.cells #[] 65)).cell? ((⟨g, 0, none⟩ : Addr).add j) = some y := by
    intro j y hj
    rw [add_addr, Nat.zero_add]
    refine CL _ bw j y ?_
    have e : rowF D.L = rowF (D.L.take i) ++ rowF (D.L.drop i) := by rw [← rowF_app, List.take_append_drop]
    rw [e, List.getElem?_append_left (List.getElem?_eq_some_iff.1 hj).1]
    exact hj
  have C2 : ∀ w2, Below w.heap.size w w2 → ∀ j y, (rowF (D.L.drop (i + 1)))[j]? = some y → w2.cell? ((⟨g, if cap = i + 1 then 0 else (i + 1) * 3, none⟩ : Addr).add j) = some y := by
    intro w2 hb j y hj
    by_cases hc : cap = i + 1
    · have : D.L.drop (i + 1) = [] := List.drop_of_length_le (by omega)
      rw [this] at hj
      simp [rowF] at hj
    · rw [if_neg hc, add_addr]
      refine CL w2 hb _ y ?_
      have e : rowF D.L = rowF (D.L.take (i + 1)) ++ rowF (D.L.drop (i + 1)) := by rw [← rowF_app, List.take_append_drop]
      have el : (rowF (D.L.take (i + 1))).length = (i + 1) * 3 := by rw [rowF_len]; simp; omega
      rw [e, List.getElem?_append_right (by omega), el]
      simpa using hj
  have C2H := Lib.hid C2
  have hown0 := World.ownsRow_made w (e := 65) (size := 3) (base := 0) #[] 0 (Nat.zero_le _) (by unfold maxLen; omega) rfl
  have t1 : (D.L.take i).length = i := by simp; omega
  have w1 : IntKind.i64.wrap ((i : Int) + 1) = (i : Int) + 1 := IntWalk.i64_in _ (by omega)
  generalize (if cap = i + 1 then 0 else (i + 1) * 3) = off2 at *
  have S2' : ∀ w2, (Instr.sliceAt 61 (.slice (some ⟨g, 0, none⟩) D.L.length cap) (some (.int .i64 ((i : Int) + 1))) none none).run Tryz.prog w2 = .ok (.slice (some ⟨g, off2, none⟩) (D.L.length - (i + 1)) (cap - (i + 1))) w2 := S2
  have CE : ∀ w2, Below w.heap.size w w2 → w2.cell? ⟨u, 0, none⟩ = some (.slice (some ⟨g, 0, none⟩) D.L.length cap) ∧ w2.frozen? ⟨u, 0, none⟩ = false := fun w2 hb => by
    have r := KP w2 hb
    have c := r.cell 0
    simp [refV] at c
    exact ⟨c, r.frozen 0⟩
  have CEH := Lib.hid CE
  have cA := (CE _ bw).1
  have t2 : (D.L.drop (i + 1)).length = D.L.length - (i + 1) := by simp
  clear S2 CL C2 KP FIN h ed CE c0 z0
  go_enter Tryz.func68, Tryz.ntmps68
  go_upto_region 1 with (first | (at_builtin; refine wpl_appA w.heap.size (l := []) (news := D.L.take i) hown0 (by simp [Value.ownBlock]) bw.size ⟨g, 0, none⟩ i cap t1.symm C1 (by simp; omega) rfl _ _ rfl rfl rfl ?_; intro o2 cap2 w2 hown2 hx2 hb2))
  have hown2' : w2.ownsRow 0 65 3 (.slice o2 i cap2) (D.L.take i).length (rowF (D.L.take i)) := by
    have := hown2
    simp only [List.nil_append] at this
    rw [t1] at this ⊢
    exact this
  have hx2' : ∀ b, Value.ownBlock (.slice o2 i cap2) = some b → w.heap.size ≤ b := by
    have := hx2
    simp only [List.nil_append] at this
    rw [t1] at this
    exact this
  clear hown2 hx2
  have t3 : (D.L.take i ++ D.L.drop (i + 1)).length = i + (D.L.length - (i + 1)) := by rw [List.length_append, t1, t2]
  have T3 := Lib.hid t3
  clear t3
  have bt := bw.trans hb2
  have C3 := C2H.out w2 bt
  obtain ⟨c2, _⟩ := CEH.out w2 bt
  have hbs := bt.size
  clear cA hown0 C1 hb2 C2H
  go_wp2_with (first | (at_builtin; refine wpl_appA w.heap.size (news := D.L.drop (i + 1)) hown2' hx2' hbs ⟨g, off2, none⟩ (D.L.length - (i + 1)) (cap - (i + 1)) t2.symm C3 (by simp; omega) rfl _ _ rfl rfl rfl ?_; intro o3 cap3 w3 hown3 hx3 hb3; obtain ⟨c3, z3⟩ := CEH.out w3 (bt.trans hb3)))
  exact bodyPost_end (v := .tuple #[]) (by simp [results, Tryz.results68, go_sem]) rfl ⟨rfl, FH.out w3 _ (bt.trans hb3) (by rw [T3.out] at hown3 ⊢; exact hown3) (by rw [T3.out] at hx3; exact hx3)⟩
end
end Go.Proofs.YtdmgobffhpgjlaaGreat.Pk
end

section
namespace Go.Proofs.YtdmgobffhpgjlaaGreat.Pk
open Go.RowKit Go.PlainAid Go.Maps
set_option linter.unusedVariables false
set_option maxRecDepth 20000
set_option linter.unusedSimpArgs false

theorem rowF_take (l : List Fi) (i : Nat) : rowF (l.take i) = (rowF l).take (i * 3) := by
  rcases Nat.le_total i l.length with h | h
  · have e : rowF l = rowF (l.take i) ++ rowF (l.drop i) := by rw [← rowF_app, List.take_append_drop]
    have el : (rowF (l.take i)).length = i * 3 := by rw [rowF_len]; simp; omega
    rw [e]
    exact (List.take_left' el).symm
  · rw [List.take_of_length_le h, List.take_of_length_le (by rw [rowF_len]; omega)]
theorem rowF_drop (l : List Fi) (i : Nat) (h : i ≤ l.length) : rowF (l.drop i) = (rowF l).drop (i * 3) := by
  have e : rowF l = rowF (l.take i) ++ rowF (l.drop i) := by rw [← rowF_app, List.take_append_drop]
  have el : (rowF (l.take i)).length = i * 3 := by rw [rowF_len]; simp; omega
  rw [e]
  exact (List.drop_left' el).symm
theorem rowF_set {l : List Fi} {i : Nat} (f : Fi) (h : i < l.length) : rowF (l.set i f) = (rowF l).take (i * 3) ++ fiV f ++ (rowF l).drop (i * 3 + 3) := by
  rw [List.set_eq_take_append_cons_drop, if_pos h, rowF_app, rowF_take, rowF, rowF_drop _ _ (by omega), show (i + 1) * 3 = i * 3 + 3 by omega]
  simp
theorem row_store {w : World} {g cap i : Nat} {l : List Fi} (hr : w.ownsRow 0 65 3 (.slice (some ⟨g, 0, none⟩) l.length cap) l.length (rowF l)) (hi : i < l.length) (f : Fi) :
    ∃ X, Stores Tryz.prog w 65 g (i * 3) #[.string (nmB f.nm), .string (nmB f.bs), .int .i64 (f.sf : Int)] X ∧ X.ownsRow 0 65 3 (.slice (some ⟨g, 0, none⟩) l.length cap) (l.set i f).length (rowF (l.set i f)) ∧ (∀ b, b ≠ g → X.heap[b]? = w.heap[b]?) ∧ X.heap.size = w.heap.size ∧ X.os = w.os ∧ X.tape = w.tape ∧ X.output = w.output := by
  rcases hr.2 with ⟨e, _⟩ | ⟨g', cap', cur, e, _, hg, hn, hm, hc, ht⟩
  · cases e
  · injection e with e1 _ e3
    injection e1 with e1
    injection e1 with e1
    subst e1 e3
    have s := stores_part (P := Tryz.prog) (ty := 65) (off := i * 3) (cs := #[.string (nmB f.nm), .string (nmB f.bs), .int .i64 (f.sf : Int)]) hg (by kernel_rfl) (by simp; omega) (by simp [Value.oneCell'])
    refine ⟨_, s, ⟨by rw [rowF_len], .inr ⟨g, cap, _, by simp, Nat.zero_le _, setRow_heap w g _ _ _ _ hg, by simpa using hn, hm, ?_, ?_⟩⟩, fun b hb => heap_setRow_other hb, by simp, rfl, rfl, rfl⟩
    · simp
      omega
    · have hcl : cur.toList.length = cap * 3 := by rw [Array.length_toList, hc]
      have e1 : (rowF l).take (i * 3) = cur.toList.take (i * 3) := by rw [← ht, List.take_take, Nat.min_eq_left (by omega)]
      have e2 : (rowF l).drop (i * 3 + 3) = (cur.toList.drop (i * 3 + 3)).take (l.length * 3 - (i * 3 + 3)) := by rw [← ht, List.drop_take]
      have l1 : (cur.toList.take (i * 3) ++ fiV f).length = i * 3 + 3 := by simp [fiV]; omega
      rw [rowF_set f hi, e1, e2, List.length_set]
      show (cur.toList.take (i * 3) ++ fiV f ++ cur.toList.drop (i * 3 + 3)).take (l.length * 3) = _
      rw [List.take_append, List.take_of_length_le (by omega), l1]
theorem wps_loadA {P : Program} {ops : Array Oper} {rest : List Oper} {o : Oper} {a : Act} {w : World} {ty : TypeId} {x : Operand} {ad : Addr} {cs : Array Value} {Q : Act → Prop} (hl : LoadsA P w ty ad cs) (hgd : o.guard = none) (hop : o.op = .load ty x) (hx : a.eval x = .pointer (some ad)) (h : wpStill P ops w Q rest (a.put o.dst (.agg cs))) : wpStill P ops w Q (o :: rest) a := by
  refine wpStill_step fun K hK => ?_
  rw [if_pos (by simp [Region.wanted, hgd])]
  unfold Oper.still execOp
  simp only [hop, hx, Instr.loadAt, Instr.sureAddr, Sem.run_bind, Sem.run_pure, Result.andThen_ok, show (loadVar ty ad).run P w = .ok (.agg cs) w from hl]
  exact ⟨rfl, hK _ h⟩
section
variable {w w' : World} {u : Nat} {v : Value} {a mo : Int} {D : Dk}
set_option maxRecDepth 100000 in
set_option maxHeartbeats 2000000 in
theorem rturn_any (h : RefAt w u v a mo D) {i : Nat} {f : Fi} (hi : D.L[i]? = some f) (q : Fi) (hq : q.nm = f.nm) (ok : { D with L := updF f.nm q D.L }.Ok) :
    Calls Tryz.prog 46 #[.pointer (some ⟨u, 0, none⟩), .int .i64 (i : Int), .agg #[.string (nmB q.nm), .string (nmB q.bs), .int .i64 (q.sf : Int)]] w fun e w' => e = .returned (.tuple #[]) ∧ RPost w w' u v { D with L := updF f.nm q D.L } := by
  have hlt := (List.getElem?_eq_some_iff.1 hi).1
  have hcn := h.ok.cnt
  have ed := upd_at h.ok.up.ne (g := q) hi
  rw [ed] at ok ⊢
  -- the boxed file, and an empty row
  have bw1 : Below w.heap.size w (w.alloc (.cells #[.string (nmB q.nm), .string (nmB q.bs), .int .i64 (q.sf : Int)] 65)) := (Below.refl _ _).alloc (Nat.le_refl _) _
  have hB := heap_alloc_new w (.cells #[.string (nmB q.nm), .string (nmB q.bs), .int .i64 (q.sf : Int)] 65)
  generalize hw1 : w.alloc (.cells #[.string (nmB q.nm), .string (nmB q.bs), .int .i64 (q.sf : Int)] 65) = w1 at *
  have sz1 : w1.heap.size = w.heap.size + 1 := by rw [← hw1]; simp
  have h1 : RefAt w1 u v a mo D := h.kept fun b z => bw1.block b (h.lt z)
  have KP : ∀ w2, Below w1.heap.size w1 w2 → RefAt w2 u v a mo D := fun w2 hb => h1.kept fun b z => hb.block b (h1.lt z)
  obtain ⟨g, cap, ev, hcap⟩ : ∃ g cap, v = .slice (some ⟨g, 0, none⟩) D.L.length cap ∧ D.L.length ≤ cap := by
    rcases h.row.2 with ⟨_, h0⟩ | ⟨g, cap, cur, e, _, _, hn, _⟩
    · omega
    · exact ⟨g, cap, e, hn⟩
  subst ev
  have bw : Below w1.heap.size w1 (w1.alloc (.cells #[] 65)) := (Below.refl _ _).alloc (Nat.le_refl _) _
  have C1 : ∀ j y, (rowF D.L)[j]? = some y → (w1.alloc (.cells #[] 65)).cell? ((⟨g, 0, none⟩ : Addr).add j) = some y := (KP _ bw).row.cells (g := g) rfl
  have hown0 := World.ownsRow_made w1 (e := 65) (size := 3) (base := 0) #[] 0 (Nat.zero_le _) (by unfold maxLen; omega) rfl
  have CE : ∀ w2, Below w1.heap.size w1 w2 → w2.cell? ⟨u, 0, none⟩ = some (.slice (some ⟨g, 0, none⟩) D.L.length cap) ∧ w2.frozen? ⟨u, 0, none⟩ = false := fun w2 hb => by
    have r := KP w2 hb
    have c := r.cell 0
    simp [refV] at c
    exact ⟨c, r.frozen 0⟩
  have cA := (CE _ bw).1
  have CEH := Lib.hid CE
  have ul := in_heap h.head
  have NEXT : ∀ w3 o3 cap3, Below w1.heap.size w1 w3 → w3.ownsRow 0 65 3 (.slice o3 D.L.length cap3) D.L.length (rowF D.L) → (∀ b, Value.ownBlock (.slice o3 D.L.length cap3) = some b → w1.heap.size ≤ b) →
      ∃ g3, o3 = some ⟨g3, 0, none⟩ ∧ LoadsA Tryz.prog (w3.setCell ⟨u, 0, none⟩ (.slice o3 D.L.length cap3)).drew 65 ⟨w.heap.size, 0, none⟩ #[.string (nmB q.nm), .string (nmB q.bs), .int .i64 (q.sf : Int)] ∧ (w3.setCell ⟨u, 0, none⟩ (.slice o3 D.L.length cap3)).cell? ⟨u, 0, none⟩ = some (.slice o3 D.L.length cap3) ∧
        ∃ X, Stores Tryz.prog (w3.setCell ⟨u, 0, none⟩ (.slice o3 D.L.length cap3)).drew 65 g3 (i * 3) #[.string (nmB q.nm), .string (nmB q.bs), .int .i64 (q.sf : Int)] X ∧ RPost w X u (.slice (some ⟨g, 0, none⟩) D.L.length cap) { D with L := D.L.set i q } := by
    intro w3 o3 cap3 hb hr hx
    have b0 : Below w.heap.size w w3 := bw1.trans (hb.mono (by omega))
    obtain ⟨g3, e3⟩ : ∃ g3, o3 = some ⟨g3, 0, none⟩ := by
      rcases hr.2 with ⟨_, h0⟩ | ⟨g3, _, _, e, _⟩
      · omega
      · injection e with e _ _
        exact ⟨g3, e⟩
    subst e3
    have hg3 : w1.heap.size ≤ g3 := hx g3 rfl
    obtain ⟨v1, a1, m1, R1, G1⟩ := h.setRow b0 (l := D.L) hr (fun b hb => by have := hx b hb; omega) h.ok
    refine ⟨g3, rfl, ?_, ?_, ?_⟩
    · refine loads_fi (f := q) fun c x hc => ?_
      rw [add_addr, Nat.zero_add]
      have e : (w3.setCell ⟨u, 0, none⟩ (.slice (some ⟨g3, 0, none⟩) D.L.length cap3)).heap[w.heap.size]? = some (.cells (fiV q).toArray 65 (0, 0)) := by
        rw [Below.heap_setCell _ _ _ _ (by simp; omega), hb.block _ (by omega)]
        exact hB
      show (w3.setCell ⟨u, 0, none⟩ (.slice (some ⟨g3, 0, none⟩) D.L.length cap3)).cell? ⟨w.heap.size, c, none⟩ = some x
      rw [cell_of_row _ _ _ _ _ _ e]
      simpa using hc
    · have hh : w3.heap[u]? = some (.cells (refV (.slice (some ⟨g, 0, none⟩) D.L.length cap) a mo D) 63 (0, 0)) := (b0.block u ul).trans h.head
      rw [cell_of_row _ _ _ _ _ _ (heap_set _ _ _ _ _ _ _ hh)]
      rfl
    · have hne : g3 ≠ u := by omega
      have hr3 : (w3.setCell ⟨u, 0, none⟩ (.slice (some ⟨g3, 0, none⟩) D.L.length cap3)).drew.ownsRow 0 65 3 (.slice (some ⟨g3, 0, none⟩) D.L.length cap3) D.L.length (rowF D.L) :=
        orow_same hr fun b hb => Below.heap_setCell _ _ _ _ (by have := hx b hb; simp; omega)
      obtain ⟨X, s1, s2, s3, s4, s5, s6, s7⟩ := row_store hr3 hlt q
      refine ⟨X, s1, .slice (some ⟨g3, 0, none⟩) D.L.length cap3, a, mo, ⟨?_, by simpa using s2, h.arm, h.a0, h.a1, h.m1, ok⟩, ?_⟩
      · rw [s3 u hne.symm]
        show (w3.setCell ⟨u, 0, none⟩ (.slice (some ⟨g3, 0, none⟩) D.L.length cap3)).heap[u]? = _
        have hh : w3.heap[u]? = some (.cells (refV (.slice (some ⟨g, 0, none⟩) D.L.length cap) a mo D) 63 (0, 0)) := (b0.block u ul).trans h.head
        rw [heap_set _ _ _ _ _ _ _ hh]
        rfl
      · refine ⟨s5.trans b0.os, s6.trans b0.tape, s7.trans b0.output, by rw [s4]; simpa using b0.size, fun b hb' hz => ?_, fun b hz => ?_⟩
        · rw [s3 b (by omega)]
          exact (Below.heap_setCell _ _ _ _ fun e => hz (.inl e)).trans (b0.block b hb')
        · rcases hz with rfl | hz
          · exact .inl (.inl rfl)
          · have : g3 = b := by simpa [Value.ownBlock] using hz
            exact .inr (by omega)
  have NH := Lib.hid NEXT
  clear NEXT CE KP h1 h hB ok ed hi hq
  generalize hB0 : w.heap.size = B0 at *
  rw [sz1] at hown0
  have hx0 : ∀ b, Value.ownBlock (.slice (some ⟨B0 + 1, 0, none⟩) 0 0) = some b → w1.heap.size ≤ b := by
    intro b hb
    have : B0 + 1 = b := by simpa [Value.ownBlock] using hb
    omega
  go_enter Tryz.func46, Tryz.ntmps46
  go_upto_region 2 with (first | (at_builtin; refine wpl_appA w1.heap.size (l := []) (news := D.L) hown0 hx0 bw.size ⟨g, 0, none⟩ D.L.length cap rfl C1 (by simp; omega) rfl _ _ rfl rfl rfl ?_; intro o3 cap3 w3 hown3 hx3 hb3; obtain ⟨c3, z3⟩ := CEH.out w3 (bw.trans hb3)))
  simp only [List.nil_append] at hown3 hx3
  obtain ⟨g3, rfl, LA, cc, X, ST, PO⟩ := NH.out w3 o3 cap3 (bw.trans hb3) hown3 hx3
  have PH := Lib.hid PO
  have l1 : (i : Int) < (D.L.length : Int) := by omega
  clear NH PO hown3 hx3 hb3 c3 z3 CEH hown0 hx0 C1 cA
  generalize World.setCell _ _ _ = wA at LA cc ST ⊢
  refine wp_region_still_tail 7 (by kernel_rfl) (by kernel_rfl) ?_
  simp only [List.take_succ_cons, List.take_zero, List.drop_succ_cons, List.drop_zero]
  still_step
  still_step
  still_step
  still_step
  still_step
  refine wps_loadA LA rfl rfl rfl ?_
  still_step
  refine wpStill_nil ?_
  go_wp2_with (first | refine wpl_store ST rfl rfl rfl rfl rfl ?_)
  exact bodyPost_end (v := .tuple #[]) (by simp [results, Tryz.results46, go_sem]) rfl ⟨rfl, PH.out⟩
end
end Go.Proofs.YtdmgobffhpgjlaaGreat.Pk
end

section
namespace Go.Proofs.YtdmgobffhpgjlaaGreat.Pk
open Go.RowKit Go.PlainAid Go.Maps
set_option linter.unusedVariables false
set_option maxRecDepth 20000
set_option linter.unusedSimpArgs false

theorem RPost.next {w w1 w2 : World} {u : Nat} {v v1 : Value} {D2 : Dk} (p : RPost w1 w2 u v1 D2) (g : Goes w w1 (rzone u v) (rzone u v1)) : RPost w w2 u v D2 := by
  obtain ⟨v2, a2, m2, R2, G2⟩ := p
  exact ⟨v2, a2, m2, R2, g.trans G2⟩
section
variable {w w' : World} {u : Nat} {v : Value} {a mo : Int} {D : Dk}
set_option maxRecDepth 100000 in
set_option maxHeartbeats 2000000 in
theorem rcreate_any (h : RefAt w u v a mo D) (pw : D.Pw) (ho : D.ops ≤ 1099511627776) {s : ByteArray} (hs : s.size ≤ 9223372036854775807) :
    Calls Tryz.prog 41 #[.pointer (some ⟨u, 0, none⟩), .string s] w fun e w' => e = .returned (.int .i64 (D.create (kl s)).1) ∧ RPost w w' u v (D.create (kl s)).2 := by
  have B := rbegin_any h pw ho s s hs hs
  rw [Bool.and_self] at B
  clear h
  by_cases hr : (D.beg (isName (kl s))).1 ≠ 0
  · rw [create_r hr]
    clear pw
    generalize D.beg (isName (kl s)) = r at *
    obtain ⟨r1, r2⟩ := r
    simp only at hr B ⊢
    go_enter Tryz.func41, Tryz.ntmps41
    go_wp2_with fail
    refine B.mono ?_
    rintro e w1 ⟨rfl, P1⟩
    have PH := Lib.hid P1
    clear B P1
    go_wp2
    go_ret
    exact ⟨rfl, PH.out⟩
  have hr : (D.beg (isName (kl s))).1 = 0 := by simpa using hr
  have hgd := beg_good hr
  rw [hr] at B
  cases hg : getF (kl s) (D.beg (isName (kl s))).2.L with
  | some f =>
    rw [create_t hr hg]
    generalize (D.beg (isName (kl s))).2 = r at *
    go_enter Tryz.func41, Tryz.ntmps41
    go_wp2_with fail
    refine B.mono ?_
    rintro e w1 ⟨rfl, v1, a1, m1, R1, G1⟩
    clear B
    have PL := place_any R1 s
    go_wp2_with fail
    refine PL.mono ?_
    rintro e w' ⟨i, rfl, PI, rfl⟩
    clear PL
    rcases PI with ⟨_, e⟩ | ⟨n, f', rfl, p1, p2, p3⟩
    · rw [hg] at e; cases e
    have PH : RPost w w1 u v r := ⟨v1, a1, m1, R1, G1⟩
    have PHH := Lib.hid PH
    clear R1 G1 PH
    go_wp2
    go_ret
    exact ⟨rfl, PHH.out⟩
  | none =>
    by_cases hn : 200 ≤ (D.beg (isName (kl s))).2.L.length
    · rw [create_f hr hg hn]
      generalize (D.beg (isName (kl s))).2 = r at *
      go_enter Tryz.func41, Tryz.ntmps41
      go_wp2_with fail
      refine B.mono ?_
      rintro e w1 ⟨rfl, v1, a1, m1, R1, G1⟩
      clear B
      have PL := place_any R1 s
      go_wp2_with fail
      refine PL.mono ?_
      rintro e w' ⟨i, rfl, PI, rfl⟩
      clear PL
      rcases PI with ⟨rfl, e⟩ | ⟨n, f', rfl, p1, p2, p3⟩
      case inr => rw [hg] at p3; cases p3
      obtain ⟨o, cap, ev, _⟩ := R1.form
      have c0 := R1.cell 0
      subst ev
      simp [refV] at c0
      have PH : RPost w w1 u v r := ⟨_, a1, m1, R1, G1⟩
      have PHH := Lib.hid PH
      have n1 : (200 : Int) ≤ (r.L.length : Int) := by omega
      clear R1 G1 PH
      go_wp2
      go_ret
      exact ⟨rfl, PHH.out⟩
    · rw [create_o hr hg hn]
      have HG := Lib.hid hgd
      generalize (D.beg (isName (kl s))).2 = r at *
      go_enter Tryz.func41, Tryz.ntmps41
      go_wp2_with fail
      refine B.mono ?_
      rintro e w1 ⟨rfl, v1, a1, m1, R1, G1⟩
      clear B
      have PL := place_any R1 s
      go_wp2_with fail
      refine PL.mono ?_
      rintro e w' ⟨i, rfl, PI, rfl⟩
      clear PL
      rcases PI with ⟨rfl, e⟩ | ⟨n, f', rfl, p1, p2, p3⟩
      case inr => rw [hg] at p3; cases p3
      have okr := R1.ok
      have PU := rput_any R1 ⟨kl s, [], 0⟩ (okr.ins HG.out (by simp) (get_none hg) (by simpa using okr.used) (by omega))
      simp only [nmB_kl] at PU
      obtain ⟨o, cap, ev, _⟩ := R1.form
      have c0 := R1.cell 0
      subst ev
      simp [refV] at c0
      have GH := Lib.hid G1
      have n1 : ¬ (200 : Int) ≤ (r.L.length : Int) := by omega
      clear R1 G1 okr
      go_wp2_with fail
      refine PU.mono ?_
      rintro e w2 ⟨rfl, P2⟩
      have PH := Lib.hid (P2.next GH.out)
      clear PU P2
      go_wp2
      go_ret
      exact ⟨rfl, PH.out⟩
set_option maxRecDepth 100000 in
set_option maxHeartbeats 2000000 in
theorem rdelete_any (h : RefAt w u v a mo D) (pw : D.Pw) (ho : D.ops ≤ 1099511627776) {s : ByteArray} (hs : s.size ≤ 9223372036854775807) :
    Calls Tryz.prog 40 #[.pointer (some ⟨u, 0, none⟩), .string s] w fun e w' => e = .returned (.int .i64 (D.delete (kl s)).1) ∧ RPost w w' u v (D.delete (kl s)).2 := by
  have B := rbegin_any h pw ho s s hs hs
  rw [Bool.and_self] at B
  clear h
  by_cases hr : (D.beg (isName (kl s))).1 ≠ 0
  · rw [delete_r hr]
    clear pw
    generalize D.beg (isName (kl s)) = r at *
    obtain ⟨r1, r2⟩ := r
    simp only at hr B ⊢
    go_enter Tryz.func40, Tryz.ntmps40
    go_wp2_with fail
    refine B.mono ?_
    rintro e w1 ⟨rfl, P1⟩
    have PH := Lib.hid P1
    clear B P1
    go_wp2
    go_ret
    exact ⟨rfl, PH.out⟩
  have hr : (D.beg (isName (kl s))).1 = 0 := by simpa using hr
  have hgd := beg_good hr
  rw [hr] at B
  cases hg : getF (kl s) (D.beg (isName (kl s))).2.L with
  | none =>
    rw [delete_n hr hg]
    generalize (D.beg (isName (kl s))).2 = r at *
    go_enter Tryz.func40, Tryz.ntmps40
    go_wp2_with fail
    refine B.mono ?_
    rintro e w1 ⟨rfl, v1, a1, m1, R1, G1⟩
    clear B
    have PL := place_any R1 s
    go_wp2_with fail
    refine PL.mono ?_
    rintro e w' ⟨i, rfl, PI, rfl⟩
    clear PL
    rcases PI with ⟨rfl, e⟩ | ⟨n, f', rfl, p1, p2, p3⟩
    case inr => rw [hg] at p3; cases p3
    have PH : RPost w w1 u v r := ⟨v1, a1, m1, R1, G1⟩
    have PHH := Lib.hid PH
    clear R1 G1 PH
    go_wp2
    go_ret
    exact ⟨rfl, PHH.out⟩
  | some f =>
    rw [delete_s hr hg]
    generalize (D.beg (isName (kl s))).2 = r at *
    go_enter Tryz.func40, Tryz.ntmps40
    go_wp2_with fail
    refine B.mono ?_
    rintro e w1 ⟨rfl, v1, a1, m1, R1, G1⟩
    clear B
    have PL := place_any R1 s
    go_wp2_with fail
    refine PL.mono ?_
    rintro e w' ⟨i, rfl, PI, rfl⟩
    clear PL
    rcases PI with ⟨_, e⟩ | ⟨n, f', rfl, p1, p2, p3⟩
    · rw [hg] at e; cases e
    have DR := rdrop_any R1 p1
    rw [p2] at DR
    have GH := Lib.hid G1
    have n1 : ¬ (n : Int) < 0 := by omega
    clear R1 G1
    go_wp2_with fail
    refine DR.mono ?_
    rintro e w2 ⟨rfl, P2⟩
    have PH := Lib.hid (P2.next GH.out)
    clear DR P2
    go_wp2
    go_ret
    exact ⟨rfl, PH.out⟩
end
end Go.Proofs.YtdmgobffhpgjlaaGreat.Pk
end

section
namespace Go.Proofs.YtdmgobffhpgjlaaGreat.Pk
open Go.RowKit Go.PlainAid Go.Maps
set_option linter.unusedVariables false
set_option maxRecDepth 20000
set_option linter.unusedSimpArgs false

theorem zfi : ∀ w, (zeroValue 65).run Tryz.prog w = .ok (.agg #[.string ⟨#[]⟩, .string ⟨#[]⟩, .int .i64 0]) w := (zero_of_info (P := Tryz.prog) (t := 65) (n := 3) (by kernel_rfl)).1
/-- a variable that holds a file -/
theorem box_fi (w : World) (f : Fi) : ∃ Y, Stores Tryz.prog (w.alloc (.cells #[.string ⟨#[]⟩, .string ⟨#[]⟩, .int .i64 0] 65)) 65 w.heap.size 0 #[.string (nmB f.nm), .string (nmB f.bs), .int .i64 (f.sf : Int)] Y ∧
    Y.heap[w.heap.size]? = some (.cells #[.string (nmB f.nm), .string (nmB f.bs), .int .i64 (f.sf : Int)] 65 (0, 0)) ∧ Below w.heap.size w Y := by
  have hn := heap_alloc_new w (.cells #[.string ⟨#[]⟩, .string ⟨#[]⟩, .int .i64 0] 65)
  have s := stores_part (P := Tryz.prog) (ty := 65) (off := 0) (cs := #[.string (nmB f.nm), .string (nmB f.bs), .int .i64 (f.sf : Int)]) hn (by kernel_rfl) (by simp) (by simp [Value.oneCell'])
  refine ⟨_, s, ?_, below_row ((Below.refl _ _).alloc (Nat.le_refl _) _) (Nat.le_refl _)⟩
  rw [setRow_heap _ _ _ _ _ _ hn]
  simp
theorem fi_loads {w : World} {B : Nat} {c0 c1 c2 : Value} (h : w.heap[B]? = some (.cells #[c0, c1, c2] 65 (0, 0))) : Loads Tryz.prog w 65 B 0 #[c0, c1, c2] := by
  have := loads_part (P := Tryz.prog) (ty := 65) (off := 0) (n := 3) h (by kernel_rfl) (by kernel_rfl) (by simp)
  simpa using this
theorem nmB_app (b : Bs) (s : ByteArray) : nmB b ++ s = nmB (b ++ kl s) := by
  apply WideShapes.bytes_inj
  simp [nmB, kl, ByteArray.data_append]
/-- the file at a place, read whole -/
theorem RefAt.file {w : World} {u : Nat} {v : Value} {a mo : Int} {D : Dk} (h : RefAt w u v a mo D) {n : Nat} {f : Fi} (hn : D.L[n]? = some f) : ∃ g cap, v = .slice (some ⟨g, 0, none⟩) D.L.length cap ∧ (∀ c x, (fiV f)[c]? = some x → w.cell? ⟨g, n * 3 + c, none⟩ = some x) ∧ LoadsA Tryz.prog w 65 ⟨g, n * 3, none⟩ #[.string (nmB f.nm), .string (nmB f.bs), .int .i64 (f.sf : Int)] := by
  obtain ⟨o, cap, e, hc⟩ := h.form
  obtain ⟨g, rfl, hx⟩ := hc n f hn
  exact ⟨g, cap, e, hx, loads_fi fun c x hc => by rw [add_addr]; exact hx c x hc⟩
section
variable {w w' : World} {u : Nat} {v : Value} {a mo : Int} {D : Dk}
set_option maxRecDepth 100000 in
set_option maxHeartbeats 2000000 in
theorem rsync_any (h : RefAt w u v a mo D) (pw : D.Pw) (ho : D.ops ≤ 1099511627776) {s : ByteArray} (hs : s.size ≤ 9223372036854775807) :
    Calls Tryz.prog 43 #[.pointer (some ⟨u, 0, none⟩), .string s] w fun e w' => e = .returned (.int .i64 (D.sync (kl s)).1) ∧ RPost w w' u v (D.sync (kl s)).2 := by
  have B := rbegin_any h pw ho s s hs hs
  rw [Bool.and_self] at B
  clear h
  by_cases hr : (D.beg (isName (kl s))).1 ≠ 0
  · rw [sync_r hr]
    clear pw
    generalize D.beg (isName (kl s)) = r at *
    obtain ⟨r1, r2⟩ := r
    simp only at hr B ⊢
    go_enter Tryz.func43, Tryz.ntmps43
    go_wp2_with fail
    refine B.mono ?_
    rintro e w1 ⟨rfl, P1⟩
    have PH := Lib.hid P1
    clear B P1
    go_wp2
    go_ret
    exact ⟨rfl, PH.out⟩
  have hr : (D.beg (isName (kl s))).1 = 0 := by simpa using hr
  have hgd := beg_good hr
  rw [hr] at B
  cases hg : getF (kl s) (D.beg (isName (kl s))).2.L with
  | none =>
    rw [sync_n hr hg]
    generalize (D.beg (isName (kl s))).2 = r at *
    go_enter Tryz.func43, Tryz.ntmps43
    go_wp2_with fail
    refine B.mono ?_
    rintro e w1 ⟨rfl, v1, a1, m1, R1, G1⟩
    clear B
    have PL := place_any R1 s
    go_wp2_with fail
    refine PL.mono ?_
    rintro e w' ⟨i, rfl, PI, rfl⟩
    clear PL
    rcases PI with ⟨rfl, e⟩ | ⟨n, f', rfl, p1, p2, p3⟩
    case inr => rw [hg] at p3; cases p3
    have PH : RPost w w1 u v r := ⟨v1, a1, m1, R1, G1⟩
    have PHH := Lib.hid PH
    clear R1 G1 PH
    go_wp2
    go_ret
    exact ⟨rfl, PHH.out⟩
  | some f =>
    rw [sync_s hr hg]
    generalize (D.beg (isName (kl s))).2 = r at *
    go_enter Tryz.func43, Tryz.ntmps43
    go_wp2_with fail
    refine B.mono ?_
    rintro e w1 ⟨rfl, v1, a1, m1, R1, G1⟩
    clear B
    have PL := place_any R1 s
    go_wp2_with fail
    refine PL.mono ?_
    rintro e w' ⟨i, rfl, PI, rfl⟩
    clear PL
    rcases PI with ⟨_, e⟩ | ⟨n, f', rfl, p1, p2, p3⟩
    · rw [hg] at e; cases e
    obtain rfl : f = f' := by rw [hg] at p3; injection p3
    have n1 : ¬ (n : Int) < 0 := by omega
    have nl := (List.getElem?_eq_some_iff.1 p1).1
    have n2 : (n : Int) < (r.L.length : Int) := by omega
    obtain ⟨g, cap, ev, cells, LA⟩ := R1.file p1
    obtain ⟨Y, S, hY, bY⟩ := box_fi w1 f
    have RY : RefAt Y u v1 a1 m1 r := R1.kept fun b z => bY.block b (R1.lt z)
    have GY : Goes w Y (rzone u v) (rzone u v1) := G1.trans (Goes.of_below bY _)
    have hlt := R1.lt (.inl rfl)
    have c0 := R1.cell 0
    subst ev
    simp [refV] at c0
    have hz := zfi
    have b1 := cell_of_row Y _ 1 _ _ _ hY
    have b2 := cell_of_row Y _ 2 _ _ _ hY
    have fz := frozen_of_row Y _ 2 _ _ hY
    simp at b1 b2
    have hY2 := heap_set Y w1.heap.size 2 (.int .i64 (f.bs.length : Int)) _ _ _ hY
    have LB : Loads Tryz.prog (Y.setCell ⟨w1.heap.size, 2, none⟩ (.int .i64 (f.bs.length : Int))) 65 w1.heap.size 0 #[.string (nmB f.nm), .string (nmB f.bs), .int .i64 (f.bs.length : Int)] := fi_loads (by simpa using hY2)
    have R2 : RefAt (Y.setCell ⟨w1.heap.size, 2, none⟩ (.int .i64 (f.bs.length : Int))) u (.slice (some ⟨g, 0, none⟩) r.L.length cap) a1 m1 r := RY.kept fun b z => Below.heap_setCell _ _ _ _ (by have := R1.lt z; simp; omega)
    have G2 : Goes w (Y.setCell ⟨w1.heap.size, 2, none⟩ (.int .i64 (f.bs.length : Int))) (rzone u v) (rzone u (.slice (some ⟨g, 0, none⟩) r.L.length cap)) := G1.trans ⟨bY.os, bY.tape, bY.output, by simpa using bY.size, fun b hb hz => (Below.heap_setCell _ _ _ _ (by simp; omega)).trans (bY.block b hb), fun _ h => .inl h⟩
    have okr := R1.ok
    have TU := rturn_any R2 p1 ⟨f.nm, f.bs, f.bs.length⟩ rfl (okr.upd (List.mem_of_getElem? p1) rfl (Nat.le_refl _) (by have := okr.used; simp; omega))
    rw [p2] at TU
    have GH := Lib.hid G2
    have sz := nmB_size f.bs
    clear R1 R2 G1 G2 GY RY okr hY hY2 cells bY
    rw [p2] at LA S LB
    skip
    go_wp2_with (first | refine wpl_loadA LA rfl rfl rfl ?_ | refine wpl_store S rfl rfl rfl rfl rfl ?_ | refine wpl_load LB rfl rfl rfl ?_)
    refine TU.mono ?_
    rintro e w2 ⟨rfl, P2⟩
    have PH := Lib.hid (P2.next GH.out)
    clear TU P2 LB
    go_wp2
    go_ret
    exact ⟨rfl, PH.out⟩
end
end Go.Proofs.YtdmgobffhpgjlaaGreat.Pk
end

section
namespace Go.Proofs.YtdmgobffhpgjlaaGreat.Pk
open Go.RowKit Go.PlainAid Go.Maps
set_option linter.unusedVariables false
set_option maxRecDepth 20000
set_option linter.unusedSimpArgs false

section
variable {w w' : World} {u : Nat} {v : Value} {a mo : Int} {D : Dk}
set_option maxRecDepth 100000 in
set_option maxHeartbeats 2000000 in
theorem rappend_any (h : RefAt w u v a mo D) (pw : D.Pw) (ho : D.ops ≤ 1099511627776) {s t : ByteArray} (hs : s.size ≤ 9223372036854775807) (ht : t.size ≤ 1099511627) :
    Calls Tryz.prog 20 #[.pointer (some ⟨u, 0, none⟩), .string s, .string t] w fun e w' => e = .returned (.int .i64 (D.append (kl s) (kl t)).1) ∧ RPost w w' u v (D.append (kl s) (kl t)).2 := by
  have B := rbegin_any h pw ho s s hs hs
  rw [Bool.and_self] at B
  clear h
  by_cases hr : (D.beg (isName (kl s))).1 ≠ 0
  · rw [append_r hr]
    clear pw
    generalize D.beg (isName (kl s)) = r at *
    obtain ⟨r1, r2⟩ := r
    simp only at hr B ⊢
    go_enter Tryz.func20, Tryz.ntmps20
    go_wp2_with fail
    refine B.mono ?_
    rintro e w1 ⟨rfl, P1⟩
    have PH := Lib.hid P1
    clear B P1
    go_wp2
    go_ret
    exact ⟨rfl, PH.out⟩
  have hr : (D.beg (isName (kl s))).1 = 0 := by simpa using hr
  have hgd := beg_good hr
  rw [hr] at B
  cases hg : getF (kl s) (D.beg (isName (kl s))).2.L with
  | none =>
    rw [append_n hr hg]
    generalize (D.beg (isName (kl s))).2 = r at *
    go_enter Tryz.func20, Tryz.ntmps20
    go_wp2_with fail
    refine B.mono ?_
    rintro e w1 ⟨rfl, v1, a1, m1, R1, G1⟩
    clear B
    have PL := place_any R1 s
    go_wp2_with fail
    refine PL.mono ?_
    rintro e w' ⟨i, rfl, PI, rfl⟩
    clear PL
    rcases PI with ⟨rfl, e⟩ | ⟨n, f', rfl, p1, p2, p3⟩
    case inr => rw [hg] at p3; cases p3
    have PH : RPost w w1 u v r := ⟨v1, a1, m1, R1, G1⟩
    have PHH := Lib.hid PH
    clear R1 G1 PH
    go_wp2
    go_ret
    exact ⟨rfl, PHH.out⟩
  | some f =>
    have hkt := kl_len t
    by_cases hc : (D.beg (isName (kl s))).2.room < (usedF (D.beg (isName (kl s))).2.L : Int) + ((kl t).length : Int)
    · rw [append_f hr hg hc]
      generalize (D.beg (isName (kl s))).2 = r at *
      have hc2 : r.room - (usedF r.L : Int) < (t.size : Int) := by omega
      clear hkt hc
      go_enter Tryz.func20, Tryz.ntmps20
      go_wp2_with fail
      refine B.mono ?_
      rintro e w1 ⟨rfl, v1, a1, m1, R1, G1⟩
      clear B
      have PL := place_any R1 s
      go_wp2_with fail
      refine PL.mono ?_
      rintro e w' ⟨i, rfl, PI, rfl⟩
      clear PL
      rcases PI with ⟨_, e⟩ | ⟨n, f', rfl, p1, p2, p3⟩
      · rw [hg] at e; cases e
      obtain rfl : f = f' := by rw [hg] at p3; injection p3
      have n1 : ¬ (n : Int) < 0 := by omega
      have nl := (List.getElem?_eq_some_iff.1 p1).1
      have n2 : (n : Int) < (r.L.length : Int) := by omega
      have US := Lib.hid fun x (h : RefAt x u v1 a1 m1 r) => rused_any h
      have RM : ∀ x, RefAt x u v1 a1 m1 r → x.cell? ⟨u, 1, none⟩ = some (.int .i64 r.room) := fun x h => by
        have c := h.cell 1
        simpa [refV] using c
      have RMH := Lib.hid RM
      have ro0 := R1.ok.room0
      have ro1 := R1.ok.room1
      have uu := R1.ok.used
      have q1 : IntKind.i64.wrap (r.room - (usedF r.L : Int)) = r.room - (usedF r.L : Int) := IntWalk.i64_in _ (by omega)
      clear RM
      go_upto_region 7 with (fail)
      refine wp_region_held (S := fun x => RefAt x u v1 a1 m1 r ∧ Goes w x (rzone u v) (rzone u v1)) (by kernel_rfl) ?_
      change wpAnyH _ _ _ _ _ _ _ _ w1.drew
      have j0 : RefAt w1.drew u v1 a1 m1 r ∧ Goes w w1.drew (rzone u v) (rzone u v1) := ⟨R1.drewN 1, G1.trans (Goes.drewN w1 1 _)⟩
      clear R1 G1
      generalize w1.drew = wd at j0 ⊢
      refine held_take 0 (.string t) rfl (by kernel_rfl) (by kernel_rfl) (by kernel_rfl) (fun _ _ _ h => h) (Or.inl ⟨by rfl, fun x j => by go_simp⟩) j0 (fun K hK => ?_)
      go_simp
      refine hK _ _ ?_
      clear hK K
      refine held_take 1 (.int .i64 (t.size : Int)) rfl (by kernel_rfl) (by kernel_rfl) (by kernel_rfl) (fun _ _ _ h => h) (Or.inl ⟨by rfl, fun x j => by go_simp⟩) j0 (fun K hK => ?_)
      go_simp
      refine hK _ _ ?_
      clear hK K
      refine held_take 2 (.pointer (some ⟨u, 0, none⟩)) rfl (by kernel_rfl) (by kernel_rfl) (by kernel_rfl) (fun _ _ _ h => h) (Or.inl ⟨by rfl, fun x j => by go_simp⟩) j0 (fun K hK => ?_)
      go_simp
      refine hK _ _ ?_
      clear hK K
      refine held_take 3 (.pointer (some ⟨u, 0, none⟩)) rfl (by kernel_rfl) (by kernel_rfl) (by kernel_rfl) (fun _ _ _ h => h) (Or.inl ⟨by rfl, fun x j => by go_simp⟩) j0 (fun K hK => ?_)
      go_simp
      refine hK _ _ ?_
      clear hK K
      refine held_take 4 (.pointer (some ⟨u, 1, none⟩)) rfl (by kernel_rfl) (by kernel_rfl) (by kernel_rfl) (fun _ _ _ h => h) (Or.inl ⟨by rfl, fun x j => by go_simp⟩) j0 (fun K hK => ?_)
      go_simp
      refine hK _ _ ?_
      clear hK K
      refine held_take 5 (.int .i64 r.room) rfl (by kernel_rfl) (by kernel_rfl) (by kernel_rfl) (fun _ _ _ h => h) (Or.inl ⟨by rfl, fun x j => by have c0 := RMH.out x j.1; go_simp⟩) j0 (fun K hK => ?_)
      go_simp
      refine hK _ _ ?_
      clear hK K
      refine held_take 6 (.pointer (some ⟨u, 0, none⟩)) rfl (by kernel_rfl) (by kernel_rfl) (by kernel_rfl) (fun _ _ _ h => h) (Or.inl ⟨by rfl, fun x j => by go_simp⟩) j0 (fun K hK => ?_)
      go_simp
      refine hK _ _ ?_
      clear hK K
      refine held_one 7 (by kernel_rfl) (fun K hK => wpOp_in rfl rfl ?_)
      go_simp
      refine (US.out _ j0.1).mono ?_
      rintro e w' ⟨rfl, rfl⟩
      refine hK _ _ j0 ?_
      clear hK K
      refine held_take 8 (.int .i64 (r.room - (usedF r.L : Int))) rfl (by kernel_rfl) (by kernel_rfl) (by kernel_rfl) (fun _ _ _ h => h) (Or.inl ⟨by rfl, fun x j => by go_simp⟩) j0 (fun K hK => ?_)
      go_simp
      refine hK _ _ ?_
      clear hK K
      refine held_take 9 (.bool true) rfl (by kernel_rfl) (by kernel_rfl) (by kernel_rfl) (fun _ _ _ h => h) (Or.inl ⟨by rfl, fun x j => by go_simp⟩) j0 (fun K hK => ?_)
      go_simp
      refine hK _ _ ?_
      clear hK K
      refine wpAnyH_done (by kernel_rfl) ?_ _
      have PHH := Lib.hid (show RPost w wd u v r from ⟨v1, a1, m1, j0.1, j0.2⟩)
      clear j0
      go_wp2
      go_ret
      exact ⟨rfl, PHH.out⟩
    · rw [append_o hr hg hc]
      generalize (D.beg (isName (kl s))).2 = r at *
      have hc2 : ¬ r.room - (usedF r.L : Int) < (t.size : Int) := by omega
      go_enter Tryz.func20, Tryz.ntmps20
      go_wp2_with fail
      refine B.mono ?_
      rintro e w1 ⟨rfl, v1, a1, m1, R1, G1⟩
      clear B
      have PL := place_any R1 s
      go_wp2_with fail
      refine PL.mono ?_
      rintro e w' ⟨i, rfl, PI, rfl⟩
      clear PL
      rcases PI with ⟨_, e⟩ | ⟨n, f', rfl, p1, p2, p3⟩
      · rw [hg] at e; cases e
      obtain rfl : f = f' := by rw [hg] at p3; injection p3
      have n1 : ¬ (n : Int) < 0 := by omega
      have nl := (List.getElem?_eq_some_iff.1 p1).1
      have n2 : (n : Int) < (r.L.length : Int) := by omega
      have okr := R1.ok
      have US := Lib.hid fun x (h : RefAt x u v1 a1 m1 r) => rused_any h
      have RM : ∀ x, RefAt x u v1 a1 m1 r → x.cell? ⟨u, 1, none⟩ = some (.int .i64 r.room) := fun x h => by
        have c := h.cell 1
        simpa [refV] using c
      have RMH := Lib.hid RM
      have ro0 := R1.ok.room0
      have ro1 := R1.ok.room1
      have uu := R1.ok.used
      have q1 : IntKind.i64.wrap (r.room - (usedF r.L : Int)) = r.room - (usedF r.L : Int) := IntWalk.i64_in _ (by omega)
      clear RM
      go_upto_region 7 with (fail)
      refine wp_region_held (S := fun x => RefAt x u v1 a1 m1 r ∧ Goes w x (rzone u v) (rzone u v1)) (by kernel_rfl) ?_
      change wpAnyH _ _ _ _ _ _ _ _ w1.drew
      have j0 : RefAt w1.drew u v1 a1 m1 r ∧ Goes w w1.drew (rzone u v) (rzone u v1) := ⟨R1.drewN 1, G1.trans (Goes.drewN w1 1 _)⟩
      clear R1 G1
      generalize w1.drew = wd at j0 ⊢
      refine held_take 0 (.string t) rfl (by kernel_rfl) (by kernel_rfl) (by kernel_rfl) (fun _ _ _ h => h) (Or.inl ⟨by rfl, fun x j => by go_simp⟩) j0 (fun K hK => ?_)
      go_simp
      refine hK _ _ ?_
      clear hK K
      refine held_take 1 (.int .i64 (t.size : Int)) rfl (by kernel_rfl) (by kernel_rfl) (by kernel_rfl) (fun _ _ _ h => h) (Or.inl ⟨by rfl, fun x j => by go_simp⟩) j0 (fun K hK => ?_)
      go_simp
      refine hK _ _ ?_
      clear hK K
      refine held_take 2 (.pointer (some ⟨u, 0, none⟩)) rfl (by kernel_rfl) (by kernel_rfl) (by kernel_rfl) (fun _ _ _ h => h) (Or.inl ⟨by rfl, fun x j => by go_simp⟩) j0 (fun K hK => ?_)
      go_simp
      refine hK _ _ ?_
      clear hK K
      refine held_take 3 (.pointer (some ⟨u, 0, none⟩)) rfl (by kernel_rfl) (by kernel_rfl) (by kernel_rfl) (fun _ _ _ h => h) (Or.inl ⟨by rfl, fun x j => by go_simp⟩) j0 (fun K hK => ?_)
      go_simp
      refine hK _ _ ?_
      clear hK K
      refine held_take 4 (.pointer (some ⟨u, 1, none⟩)) rfl (by kernel_rfl) (by kernel_rfl) (by kernel_rfl) (fun _ _ _ h => h) (Or.inl ⟨by rfl, fun x j => by go_simp⟩) j0 (fun K hK => ?_)
      go_simp
      refine hK _ _ ?_
      clear hK K
      refine held_take 5 (.int .i64 r.room) rfl (by kernel_rfl) (by kernel_rfl) (by kernel_rfl) (fun _ _ _ h => h) (Or.inl ⟨by rfl, fun x j => by have c0 := RMH.out x j.1; go_simp⟩) j0 (fun K hK => ?_)
      go_simp
      refine hK _ _ ?_
      clear hK K
      refine held_take 6 (.pointer (some ⟨u, 0, none⟩)) rfl (by kernel_rfl) (by kernel_rfl) (by kernel_rfl) (fun _ _ _ h => h) (Or.inl ⟨by rfl, fun x j => by go_simp⟩) j0 (fun K hK => ?_)
      go_simp
      refine hK _ _ ?_
      clear hK K
      refine held_one 7 (by kernel_rfl) (fun K hK => wpOp_in rfl rfl ?_)
      go_simp
      refine (US.out _ j0.1).mono ?_
      rintro e w' ⟨rfl, rfl⟩
      refine hK _ _ j0 ?_
      clear hK K
      refine held_take 8 (.int .i64 (r.room - (usedF r.L : Int))) rfl (by kernel_rfl) (by kernel_rfl) (by kernel_rfl) (fun _ _ _ h => h) (Or.inl ⟨by rfl, fun x j => by go_simp⟩) j0 (fun K hK => ?_)
      go_simp
      refine hK _ _ ?_
      clear hK K
      refine held_take 9 (.bool false) rfl (by kernel_rfl) (by kernel_rfl) (by kernel_rfl) (fun _ _ _ h => h) (Or.inl ⟨by rfl, fun x j => by go_simp⟩) j0 (fun K hK => ?_)
      go_simp
      refine hK _ _ ?_
      clear hK K
      refine wpAnyH_done (by kernel_rfl) ?_ _
      have R1 := j0.1
      have G1 := j0.2
      clear j0
      generalize wd = w1 at *
      obtain ⟨g, cap, ev, cells, LA⟩ := R1.file p1
      obtain ⟨Y, S, hY, bY⟩ := box_fi w1 f
      have RY : RefAt Y u v1 a1 m1 r := R1.kept fun b z => bY.block b (R1.lt z)
      have GY : Goes w Y (rzone u v) (rzone u v1) := G1.trans (Goes.of_below bY _)
      have hlt := R1.lt (.inl rfl)
      have c0 := R1.cell 0
      subst ev
      simp [refV] at c0
      have hz := zfi
      have b1 := cell_of_row Y _ 1 _ _ _ hY
      have fz := frozen_of_row Y _ 1 _ _ hY
      simp at b1
      have hY2 := heap_set Y w1.heap.size 1 (.string (nmB f.bs ++ t)) _ _ _ hY
      have LB : Loads Tryz.prog (Y.setCell ⟨w1.heap.size, 1, none⟩ (.string (nmB f.bs ++ t))) 65 w1.heap.size 0 #[.string (nmB f.nm), .string (nmB f.bs ++ t), .int .i64 (f.sf : Int)] := fi_loads (by simpa using hY2)
      have R2 : RefAt (Y.setCell ⟨w1.heap.size, 1, none⟩ (.string (nmB f.bs ++ t))) u (.slice (some ⟨g, 0, none⟩) r.L.length cap) a1 m1 r := RY.kept fun b z => Below.heap_setCell _ _ _ _ (by have := R1.lt z; simp; omega)
      have G2 : Goes w (Y.setCell ⟨w1.heap.size, 1, none⟩ (.string (nmB f.bs ++ t))) (rzone u v) (rzone u (.slice (some ⟨g, 0, none⟩) r.L.length cap)) := G1.trans ⟨bY.os, bY.tape, bY.output, by simpa using bY.size, fun b hb hz => (Below.heap_setCell _ _ _ _ (by simp; omega)).trans (bY.block b hb), fun _ h => .inl h⟩
      have fm := List.mem_of_getElem? p1
      have fsz := mem_used fm
      have TU := rturn_any R2 p1 ⟨f.nm, f.bs ++ kl t, f.sf⟩ rfl (okr.upd fm rfl (by have := okr.safe f fm; simp; omega) (by simp [hkt]; omega))
      rw [p2] at TU
      simp only [← nmB_app] at TU
      have GH := Lib.hid G2
      have sz := nmB_size f.bs
      have q4 : ¬ (9223372036854775807 : Int) < (((nmB f.bs).size + t.size : Nat) : Int) := by omega
      clear R1 R2 G1 G2 GY RY okr hY hY2 cells bY
      rw [p2] at LA S LB
      go_wp2_with (first | refine wpl_loadA LA rfl rfl rfl ?_ | refine wpl_store S rfl rfl rfl rfl rfl ?_ | refine wpl_load LB rfl rfl rfl ?_)
      refine TU.mono ?_
      rintro e w2 ⟨rfl, P2⟩
      have PH := Lib.hid (P2.next GH.out)
      clear TU P2 LB
      go_wp2
      go_ret
      exact ⟨rfl, PH.out⟩
end
end Go.Proofs.YtdmgobffhpgjlaaGreat.Pk
end

section
namespace Go.Proofs.YtdmgobffhpgjlaaGreat.Pk
open Go.RowKit Go.PlainAid Go.Maps
set_option linter.unusedVariables false
set_option maxRecDepth 20000
set_option linter.unusedSimpArgs false

theorem cut_nmB (b : Bs) {a k : Nat} (ha : a ≤ b.length) : (nmB b).extract a (a + min k (b.length - a)) = nmB ((b.drop a).take k) := by
  apply WideShapes.bytes_inj
  simp only [nmB, ByteArray.data_extract, Array.toList_extract, List.extract_eq_take_drop]
  rw [Nat.add_sub_cancel_left]
  rcases Nat.le_total k (b.length - a) with c | c
  · rw [Nat.min_eq_left c]
  · rw [Nat.min_eq_right c, List.take_of_length_le (by simp), List.take_of_length_le (by simp; omega)]
section
variable {w w' : World} {u : Nat} {v : Value} {a mo : Int} {D : Dk}
set_option maxRecDepth 100000 in
set_option maxHeartbeats 2000000 in
theorem rread_any (h : RefAt w u v a mo D) (pw : D.Pw) (ho : D.ops ≤ 1099511627776) {s : ByteArray} (hs : s.size ≤ 9223372036854775807) (pos n : Int) (hp : pos ≤ 9223372036854775807) (hn : n ≤ 9223372036854775807) :
    Calls Tryz.prog 42 #[.pointer (some ⟨u, 0, none⟩), .string s, .int .i64 pos, .int .i64 n] w fun e w' => e = .returned (.tuple #[.string ⟨(D.read (kl s) pos n).1.toArray⟩, .int .i64 (D.read (kl s) pos n).2.1]) ∧ RPost w w' u v (D.read (kl s) pos n).2.2 := by
  have B := rbegin_any h pw ho s s hs hs
  rw [Bool.and_self] at B
  have PHH := Lib.hid (show RPost w w u v D from ⟨v, a, mo, h, Goes.refl _ _⟩)
  have ni := isName_iff s
  clear h pw
  by_cases b0 : s.size < 1
  · rw [read_b (by have : isName (kl s) = false := by
                     cases hx : isName (kl s)
                     · rfl
                     · have := ni.1 hx; omega
                   simp [this])]
    have c0 : (s.size : Int) < 1 := by omega
    clear B ni
    go_enter Tryz.func42, Tryz.ntmps42
    go_wp2
    go_ret2
    exact ⟨rfl, PHH.out⟩
  have c0 : ¬ (s.size : Int) < 1 := by omega
  by_cases b1 : 80 < s.size
  · rw [read_b (by have : isName (kl s) = false := by
                     cases hx : isName (kl s)
                     · rfl
                     · have := ni.1 hx; omega
                   simp [this])]
    have c1 : (80 : Int) < (s.size : Int) := by omega
    clear B ni
    go_enter Tryz.func42, Tryz.ntmps42
    go_wp2
    go_ret2
    exact ⟨rfl, PHH.out⟩
  have c1 : ¬ (80 : Int) < (s.size : Int) := by omega
  have gs : isName (kl s) = true := ni.2 (by omega)
  rw [gs] at B
  by_cases b2 : pos < 0
  · rw [read_b (by have : ¬ 0 ≤ pos := by omega
                   simp [this])]
    clear B ni gs
    go_enter Tryz.func42, Tryz.ntmps42
    go_wp2
    go_ret2
    exact ⟨rfl, PHH.out⟩
  by_cases b3 : n < 0
  · rw [read_b (by have : ¬ 0 ≤ n := by omega
                   simp [this])]
    clear B ni gs
    go_enter Tryz.func42, Tryz.ntmps42
    go_wp2
    go_ret2
    exact ⟨rfl, PHH.out⟩
  have hb : (isName (kl s) && decide (0 ≤ pos) && decide (0 ≤ n)) = true := by
    have c2 : 0 ≤ pos := by omega
    have c3 : 0 ≤ n := by omega
    simp [gs, c2, c3]
  clear ni gs PHH
  by_cases hr : (D.beg true).1 ≠ 0
  · rw [read_r hb hr]
    clear hb
    generalize D.beg true = r at *
    obtain ⟨r1, r2⟩ := r
    simp only at hr B ⊢
    go_enter Tryz.func42, Tryz.ntmps42
    go_wp2_with fail
    refine B.mono ?_
    rintro e w1 ⟨rfl, P1⟩
    have PH := Lib.hid P1
    clear B P1
    go_wp2
    go_ret2
    exact ⟨rfl, PH.out⟩
  have hr : (D.beg true).1 = 0 := by simpa using hr
  rw [hr] at B
  cases hg : getF (kl s) (D.beg true).2.L with
  | none =>
    rw [read_n hb hr hg]
    clear hb hr
    generalize (D.beg true).2 = r at *
    go_enter Tryz.func42, Tryz.ntmps42
    go_wp2_with fail
    refine B.mono ?_
    rintro e w1 ⟨rfl, v1, a1, m1, R1, G1⟩
    clear B
    have PL := place_any R1 s
    go_wp2_with fail
    refine PL.mono ?_
    rintro e w' ⟨i, rfl, PI, rfl⟩
    clear PL
    rcases PI with ⟨rfl, e⟩ | ⟨n', f', rfl, p1, p2, p3⟩
    case inr => rw [hg] at p3; cases p3
    have PHH := Lib.hid (show RPost w w1 u v r from ⟨v1, a1, m1, R1, G1⟩)
    clear R1 G1
    go_wp2
    go_ret2
    exact ⟨rfl, PHH.out⟩
  | some f =>
    by_cases hc : (f.bs.length : Int) < pos
    · rw [read_f hb hr hg hc]
      clear hb hr
      generalize (D.beg true).2 = r at *
      go_enter Tryz.func42, Tryz.ntmps42
      go_wp2_with fail
      refine B.mono ?_
      rintro e w1 ⟨rfl, v1, a1, m1, R1, G1⟩
      clear B
      have PL := place_any R1 s
      go_wp2_with fail
      refine PL.mono ?_
      rintro e w' ⟨i, rfl, PI, rfl⟩
      clear PL
      rcases PI with ⟨_, e⟩ | ⟨k, f', rfl, p1, p2, p3⟩
      · rw [hg] at e; cases e
      obtain rfl : f = f' := by rw [hg] at p3; injection p3
      have n1 : ¬ (k : Int) < 0 := by omega
      have nl := (List.getElem?_eq_some_iff.1 p1).1
      have n2 : (k : Int) < (r.L.length : Int) := by omega
      obtain ⟨g, cap, ev, cells, _⟩ := R1.file p1
      have cS := cells 1 _ rfl
      have c9 := R1.cell 0
      subst ev
      simp [refV] at c9
      have sz := nmB_size f.bs
      have PHH := Lib.hid (show RPost w w1 u v r from ⟨_, a1, m1, R1, G1⟩)
      clear R1 G1 cells
      go_wp2
      go_ret2
      exact ⟨rfl, PHH.out⟩
    · rw [read_o hb hr hg hc]
      clear hb hr
      generalize (D.beg true).2 = r at *
      obtain ⟨q, rfl⟩ : ∃ q : Nat, pos = (q : Int) := ⟨pos.toNat, by omega⟩
      obtain ⟨m, rfl⟩ : ∃ m : Nat, n = (m : Int) := ⟨n.toNat, by omega⟩
      rw [Int.toNat_natCast, Int.toNat_natCast]
      go_enter Tryz.func42, Tryz.ntmps42
      go_wp2_with fail
      refine B.mono ?_
      rintro e w1 ⟨rfl, v1, a1, m1, R1, G1⟩
      clear B
      have PL := place_any R1 s
      go_wp2_with fail
      refine PL.mono ?_
      rintro e w' ⟨i, rfl, PI, rfl⟩
      clear PL
      rcases PI with ⟨_, e⟩ | ⟨k, f', rfl, p1, p2, p3⟩
      · rw [hg] at e; cases e
      obtain rfl : f = f' := by rw [hg] at p3; injection p3
      have n1 : ¬ (k : Int) < 0 := by omega
      have nl := (List.getElem?_eq_some_iff.1 p1).1
      have n2 : (k : Int) < (r.L.length : Int) := by omega
      obtain ⟨g, cap, ev, cells, _⟩ := R1.file p1
      have cS := cells 1 _ rfl
      have c9 := R1.cell 0
      have bl := Nat.le_trans (mem_used (List.mem_of_getElem? p1)) (show usedF r.L ≤ 4194304 by have := R1.ok.used; have := R1.ok.room1; omega)
      subst ev
      simp [refV] at c9
      have sz := nmB_size f.bs
      have ct := cut_nmB f.bs (a := q) (k := m) (by omega)
      have PHH := Lib.hid (show RPost w w1 u v r from ⟨_, a1, m1, R1, G1⟩)
      clear R1 G1 cells
      have q1 : IntKind.i64.wrap ((f.bs.length : Int) - (q : Int)) = (f.bs.length : Int) - (q : Int) := IntWalk.i64_in _ (by omega)
      have q2 : IntKind.i64.wrap ((q : Int) + min (m : Int) ((f.bs.length : Int) - (q : Int))) = (q : Int) + min (m : Int) ((f.bs.length : Int) - (q : Int)) := IntWalk.i64_in _ (by omega)
      have q3 : (q : Int) + min (m : Int) ((f.bs.length : Int) - (q : Int)) = ((q + min m (f.bs.length - q) : Nat) : Int) := by omega
      have q4 : q + min m (f.bs.length - q) ≤ f.bs.length := by omega
      have nc : ¬ (f.bs.length : Int) < (q : Int) := by omega
      clear hc b2 b3 hp hn
      have CS : ∀ w2, (Instr.slice 9 (.string (nmB f.bs)) (some (.int .i64 (q : Int))) (some (.int .i64 ((q : Int) + ((min m (f.bs.length - q) : Nat) : Int)))) none).run Tryz.prog w2 = .ok (.string (nmB ((f.bs.drop q).take m))) w2 := by
        intro w2
        rw [run_slice_string w2 9 _ _ _ _ _ Tryz.underlying9 (by omega) (by omega) (by rw [sz]; omega)]
        rw [show ((q : Int) + ((min m (f.bs.length - q) : Nat) : Int)).toNat = q + min m (f.bs.length - q) from by omega, show ((q : Int)).toNat = q from rfl, ct]
      go_wp2
      go_ret2
      exact ⟨rfl, PHH.out⟩
end
end Go.Proofs.YtdmgobffhpgjlaaGreat.Pk
end

section
namespace Go.Proofs.YtdmgobffhpgjlaaGreat.Pk
open Go.RowKit Go.PlainAid Go.Maps
set_option linter.unusedVariables false
set_option maxRecDepth 20000
set_option linter.unusedSimpArgs false

theorem rename_ok {r : Dk} (okr : r.Ok) {f : Fi} {nm to : Bs} (hf : f ∈ r.L) (hn : f.nm = nm) (hto : isName to = true) : { r with L := insF ⟨to, f.bs, f.sf⟩ (delF to (delF nm r.L)) }.Ok := by
  have hu := used_del okr.up.ne hf
  have hl := len_del okr.up.ne hf
  rw [hn] at hu hl
  have huse := okr.used
  have hcnt := okr.cnt
  have o1 := (okr.del nm).del to
  refine o1.ins (D := { r with L := delF to (delF nm r.L) }) hto (okr.safe f hf) (fun x hx => (mem_del.1 hx).2) ?_ ?_
  · have : usedF (delF to (delF nm r.L)) ≤ usedF (delF nm r.L) := by
      cases hgt : getF to (delF nm r.L) with
      | none => rw [del_none (get_none hgt)]; exact Nat.le_refl _
      | some x =>
        obtain ⟨x1, x2⟩ := get_some hgt
        have := used_del (okr.up.del nm).ne x1
        rw [x2] at this
        omega
    simp
    omega
  · have : (delF to (delF nm r.L)).length ≤ (delF nm r.L).length := List.length_filter_le _ _
    simp
    omega
/-- a block that isn't the document's stays -/
theorem Goes.stay {w w' : World} {Z Z' : Nat → Prop} (g : Goes w w' Z Z') {B : Nat} {o : Obj} (h : w.heap[B]? = some o) (hz : ¬ Z B) : w'.heap[B]? = some o ∧ ¬ Z' B := by
  have hb := in_heap h
  refine ⟨(g.block B hb hz).trans h, fun z => ?_⟩
  rcases g.sub B z with c | c
  · exact hz c
  · omega
theorem Goes.box {w wz : World} {Z Zz : Nat → Prop} (g : Goes w wz Z Zz) {B j : Nat} {x : Value} (hB : w.heap.size ≤ B) : Goes w (wz.setCell ⟨B, j, none⟩ x) Z Zz :=
  ⟨g.os, g.tape, g.output, by simpa using g.size, fun b hb hz => (Below.heap_setCell _ _ _ _ (by simp; omega)).trans (g.block b hb hz), g.sub⟩
section
variable {w w' : World} {u : Nat} {v : Value} {a mo : Int} {D : Dk}
set_option maxRecDepth 100000 in
set_option maxHeartbeats 2000000 in
theorem rrename_any (h : RefAt w u v a mo D) (pw : D.Pw) (ho : D.ops ≤ 1099511627776) {s t : ByteArray} (hs : s.size ≤ 9223372036854775807) (ht : t.size ≤ 9223372036854775807) :
    Calls Tryz.prog 59 #[.pointer (some ⟨u, 0, none⟩), .string s, .string t] w fun e w' => e = .returned (.int .i64 (D.rename (kl s) (kl t)).1) ∧ RPost w w' u v (D.rename (kl s) (kl t)).2 := by
  have B := rbegin_any h pw ho s t hs ht
  clear h
  by_cases hr : (D.beg (isName (kl s) && isName (kl t))).1 ≠ 0
  · rw [rename_r hr]
    clear pw
    generalize D.beg (isName (kl s) && isName (kl t)) = r at *
    obtain ⟨r1, r2⟩ := r
    simp only at hr B ⊢
    go_enter Tryz.func59, Tryz.ntmps59
    go_wp2_with fail
    refine B.mono ?_
    rintro e w1 ⟨rfl, P1⟩
    have PH := Lib.hid P1
    clear B P1
    go_wp2
    go_ret
    exact ⟨rfl, PH.out⟩
  have hr : (D.beg (isName (kl s) && isName (kl t))).1 = 0 := by simpa using hr
  have hgd := beg_good hr
  rw [hr] at B
  have hto : isName (kl t) = true := by
    simp only [Bool.and_eq_true] at hgd
    exact hgd.2
  have KT := Lib.hid hto
  clear hto
  cases hg : getF (kl s) (D.beg (isName (kl s) && isName (kl t))).2.L with
  | none =>
    rw [rename_n hr hg]
    generalize (D.beg (isName (kl s) && isName (kl t))).2 = r at *
    go_enter Tryz.func59, Tryz.ntmps59
    go_wp2_with fail
    refine B.mono ?_
    rintro e w1 ⟨rfl, v1, a1, m1, R1, G1⟩
    clear B
    have PL := place_any R1 s
    go_wp2_with fail
    refine PL.mono ?_
    rintro e w' ⟨i, rfl, PI, rfl⟩
    clear PL
    rcases PI with ⟨rfl, e⟩ | ⟨n, f', rfl, p1, p2, p3⟩
    case inr => rw [hg] at p3; cases p3
    have PH : RPost w w1 u v r := ⟨v1, a1, m1, R1, G1⟩
    have PHH := Lib.hid PH
    clear R1 G1 PH
    go_wp2
    go_ret
    exact ⟨rfl, PHH.out⟩
  | some f =>
    rw [rename_s hr hg]
    generalize (D.beg (isName (kl s) && isName (kl t))).2 = r at *
    go_enter Tryz.func59, Tryz.ntmps59
    go_wp2_with fail
    refine B.mono ?_
    rintro e w1 ⟨rfl, v1, a1, m1, R1, G1⟩
    clear B
    have PL := place_any R1 s
    go_wp2_with fail
    refine PL.mono ?_
    rintro e w' ⟨i, rfl, PI, rfl⟩
    clear PL
    rcases PI with ⟨_, e⟩ | ⟨n, f', rfl, p1, p2, p3⟩
    · rw [hg] at e; cases e
    obtain rfl : f = f' := by rw [hg] at p3; injection p3
    have n1 : ¬ (n : Int) < 0 := by omega
    have nl := (List.getElem?_eq_some_iff.1 p1).1
    have n2 : (n : Int) < (r.L.length : Int) := by omega
    obtain ⟨g, cap, ev, cells, LA⟩ := R1.file p1
    obtain ⟨Y, S, hY, bY⟩ := box_fi w1 f
    have RY : RefAt Y u v1 a1 m1 r := R1.kept fun b z => bY.block b (R1.lt z)
    have GY : Goes w Y (rzone u v) (rzone u v1) := G1.trans (Goes.of_below bY _)
    have hlt := R1.lt (.inl rfl)
    have c0 := R1.cell 0
    subst ev
    simp [refV] at c0
    have hz := zfi
    have okR := rename_ok R1.ok (List.mem_of_getElem? p1) p2 KT.out
    have nB : ¬ rzone u (.slice (some ⟨g, 0, none⟩) r.L.length cap) w1.heap.size := fun z => by have := R1.lt z; omega
    have DR := rdrop_any RY p1
    rw [p2] at DR
    have wB : w.heap.size ≤ w1.heap.size := G1.size
    have FIN : ∀ wz vz az mz, RefAt wz u vz az mz { r with L := delF (kl t) (delF (kl s) r.L) } → Goes w wz (rzone u v) (rzone u vz) → wz.heap[w1.heap.size]? = some (.cells #[.string (nmB f.nm), .string (nmB f.bs), .int .i64 (f.sf : Int)] 65 (0, 0)) → ¬ rzone u vz w1.heap.size →
        wz.cell? ⟨w1.heap.size, 0, none⟩ = some (.string (nmB f.nm)) ∧ wz.frozen? ⟨w1.heap.size, 0, none⟩ = false ∧ Loads Tryz.prog (wz.setCell ⟨w1.heap.size, 0, none⟩ (.string t)) 65 w1.heap.size 0 #[.string t, .string (nmB f.bs), .int .i64 (f.sf : Int)] ∧
        Calls Tryz.prog 69 #[.pointer (some ⟨u, 0, none⟩), .agg #[.string t, .string (nmB f.bs), .int .i64 (f.sf : Int)]] (wz.setCell ⟨w1.heap.size, 0, none⟩ (.string t)) fun e w' => e = .returned (.tuple #[]) ∧ RPost w w' u v { r with L := insF ⟨kl t, f.bs, f.sf⟩ (delF (kl t) (delF (kl s) r.L)) } := by
      intro wz vz az mz Rz Gz hB nBz
      have hB2 := heap_set wz w1.heap.size 0 (.string t) _ _ _ hB
      refine ⟨by rw [cell_of_row _ _ _ _ _ _ hB]; rfl, frozen_of_row _ _ _ _ _ hB, fi_loads (by simpa using hB2), ?_⟩
      have R5 : RefAt (wz.setCell ⟨w1.heap.size, 0, none⟩ (.string t)) u vz az mz { r with L := delF (kl t) (delF (kl s) r.L) } := Rz.kept fun b z => Below.heap_setCell _ _ _ _ (by intro e; simp at e; subst e; exact nBz z)
      have PU := rput_any R5 ⟨kl t, f.bs, f.sf⟩ okR
      simp only [nmB_kl] at PU
      exact PU.mono fun e wy ⟨he, P⟩ => ⟨he, P.next (Gz.box wB)⟩
    have FH := Lib.hid FIN
    have GYH := Lib.hid GY
    have HY := Lib.hid hY
    have NB := Lib.hid nB
    clear R1 G1 GY RY hY cells bY FIN okR nB
    rw [p2] at LA S
    go_wp2_with (first | refine wpl_loadA LA rfl rfl rfl ?_ | refine wpl_store S rfl rfl rfl rfl rfl ?_)
    refine DR.mono ?_
    rintro e w2 ⟨rfl, v2, a2, m2, R2, G2⟩
    clear DR S LA
    obtain ⟨hB2, nB2⟩ := G2.stay HY.out NB.out
    have G2T := GYH.out.trans G2
    have PL2 := place_any R2 t
    go_wp2_with fail
    refine PL2.mono ?_
    rintro e w' ⟨i2, rfl, PI2, rfl⟩
    clear PL2
    rcases PI2 with ⟨rfl, e2⟩ | ⟨n2, f2, rfl, t1, t2, t3⟩
    · have en := del_none (get_none e2)
      obtain ⟨k1, k2, k3, k4⟩ := FH.out w2 v2 a2 m2 (by rw [en]; exact R2) G2T hB2 nB2
      rw [p2] at k1
      clear R2 G2 G2T hB2 nB2 FH
      go_wp2_with (first | refine wpl_load k3 rfl rfl rfl ?_)
      refine k4.mono ?_
      rintro e w9 ⟨rfl, P9⟩
      have PH := Lib.hid P9
      clear k4 k3 P9
      go_wp2
      go_ret
      exact ⟨rfl, PH.out⟩
    · have DR2 := rdrop_any R2 t1
      rw [t2] at DR2
      have n3 : ¬ (n2 : Int) < 0 := by omega
      have n4 : (0 : Int) ≤ (n2 : Int) := by omega
      clear R2
      go_wp2_with fail
      refine DR2.mono ?_
      rintro e w3 ⟨rfl, v3, a3, m3, R3, G3⟩
      clear DR2
      obtain ⟨hB3, nB3⟩ := G3.stay hB2 nB2
      obtain ⟨k1, k2, k3, k4⟩ := FH.out w3 v3 a3 m3 R3 (G2T.trans G3) hB3 nB3
      rw [p2] at k1
      clear R3 G3 G2 G2T hB3 nB3 hB2 nB2 FH
      go_wp2_with (first | refine wpl_load k3 rfl rfl rfl ?_)
      refine k4.mono ?_
      rintro e w9 ⟨rfl, P9⟩
      have PH := Lib.hid P9
      clear k4 k3 P9
      go_wp2
      go_ret
      exact ⟨rfl, PH.out⟩
end
end Go.Proofs.YtdmgobffhpgjlaaGreat.Pk
end
