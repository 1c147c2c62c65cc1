/-
  The document's put.
-/
import Derived.Test.YtdmgobffhpgjlaaGreatPkRef3
namespace Go.Proofs.YtdmgobffhpgjlaaGreat.Pk
open Go.RowKit Go.PlainAid Go.Maps
set_option linter.unusedVariables false
set_option maxRecDepth 20000
set_option linter.unusedSimpArgs false

def PutInv (f : Fi) (l : List Fi) (dn : Bool) (out : List Fi) (k : Nat) : Prop := (dn = false ∧ out = l.take k ∧ insF f l = l.take k ++ insF f (l.drop k)) ∨ (dn = true ∧ insF f l = out ++ l.drop k ∧ out.length = k + 1)
structure PutAt (w1 wr : World) (f : Fi) (l : List Fi) (x : Value) (dn : Bool) (k : Nat) : Prop where
  is : ∃ out, wr.ownsRow 0 65 3 x out.length (rowF out) ∧ (∀ b, x.ownBlock = some b → w1.heap.size ≤ b) ∧ Below w1.heap.size w1 wr ∧ PutInv f l dn out k
theorem drop_at {l : List Fi} {k : Nat} {y : Fi} (h : l[k]? = some y) : l.drop k = y :: l.drop (k + 1) := by
  have hk := (List.getElem?_eq_some_iff.1 h).1
  rw [List.drop_eq_getElem_cons hk, (List.getElem?_eq_some_iff.1 h).2]
theorem take_at {l : List Fi} {k : Nat} {y : Fi} (h : l[k]? = some y) : l.take (k + 1) = l.take k ++ [y] := by
  rw [List.take_add_one, h]
  rfl
theorem put_past {f y : Fi} {l out : List Fi} {k : Nat} (h : PutInv f l false out k) (hy : l[k]? = some y) (hb : bytesBefore f.nm y.nm = false) : PutInv f l false (out ++ [y]) (k + 1) := by
  rcases h with ⟨_, h1, h2⟩ | ⟨h, _⟩
  · refine .inl ⟨rfl, by rw [h1, take_at hy], ?_⟩
    rw [h2, drop_at hy, ins_past hb, take_at hy]
    simp
  · cases h
theorem put_here {f y : Fi} {l out : List Fi} {k : Nat} (h : PutInv f l false out k) (hy : l[k]? = some y) (hb : bytesBefore f.nm y.nm = true) : PutInv f l true (out ++ [f] ++ [y]) (k + 1) := by
  rcases h with ⟨_, h1, h2⟩ | ⟨h, _⟩
  · refine .inr ⟨rfl, ?_, ?_⟩
    · rw [h2, drop_at hy, ins_here hb, h1]
      simp
    · have := (List.getElem?_eq_some_iff.1 hy).1
      rw [h1]
      simp
      omega
  · cases h
theorem put_done {f y : Fi} {l out : List Fi} {k : Nat} (h : PutInv f l true out k) (hy : l[k]? = some y) : PutInv f l true (out ++ [y]) (k + 1) := by
  rcases h with ⟨h, _⟩ | ⟨_, h2, h3⟩
  · cases h
  · refine .inr ⟨rfl, ?_, by simp; omega⟩
    rw [h2, drop_at hy]
    simp
theorem put_len {f : Fi} {l out : List Fi} {k : Nat} {dn : Bool} (h : PutInv f l dn out k) (hk : k ≤ l.length) : out.length ≤ k + 1 := by
  rcases h with ⟨_, h1, _⟩ | ⟨_, _, h3⟩
  · rw [h1]; simp; omega
  · omega
theorem orow_form {w : World} {x : Value} {n : Nat} {xs : List Value} (h : w.ownsRow 0 65 3 x n xs) : ∃ o cap, x = .slice o n cap := by
  rcases h.2 with ⟨rfl, rfl⟩ | ⟨g, cap, cur, rfl, _⟩
  · exact ⟨none, 0, rfl⟩
  · exact ⟨_, cap, rfl⟩
section
variable {w w' : World} {u : Nat} {v : Value} {a mo : Int} {D : Dk}
set_option maxRecDepth 100000 in
set_option maxHeartbeats 2000000 in
theorem rput_any (h : RefAt w u v a mo D) (f : Fi) (ok : { D with L := insF f D.L }.Ok) :
    Calls Tryz.prog 69 #[.pointer (some ⟨u, 0, none⟩), .agg #[.string (nmB f.nm), .string (nmB f.bs), .int .i64 (f.sf : Int)]] w fun e w' => e = .returned (.tuple #[]) ∧ RPost w w' u v { D with L := insF f D.L } := by
  have h1 := h.alloc (.cells (fiV f).toArray 65)
  have hB := heap_alloc_new w (.cells (fiV f).toArray 65)
  have hcn := h.ok.cnt
  have FIN : ∀ wr x, Below (w.alloc (.cells (fiV f).toArray 65)).heap.size (w.alloc (.cells (fiV f).toArray 65)) wr → wr.ownsRow 0 65 3 x (insF f D.L).length (rowF (insF f D.L)) → (∀ b, x.ownBlock = some b → (w.alloc (.cells (fiV f).toArray 65)).heap.size ≤ b) →
      RPost w (wr.setCell ⟨u, 0, none⟩ x) u v { D with L := insF f D.L } := by
    intro wr x hb hr hx
    have hb' : Below w.heap.size w wr := ((Below.refl _ w).alloc (Nat.le_refl _) _).trans (hb.mono (by simp))
    exact h.setRow hb' hr (fun b hb => by have := hx b hb; simp at this; omega) ok
  have FH := Lib.hid FIN
  obtain ⟨o, cap, rfl, hf⟩ := h1.form
  have C0 : ∀ wr, Below (w.alloc (.cells (fiV f).toArray 65)).heap.size (w.alloc (.cells (fiV f).toArray 65)) wr → RefAt wr u (.slice o D.L.length cap) a mo D := fun wr hb => h1.kept fun b z => hb.block b (h1.lt z)
  have LF : ∀ wr, Below (w.alloc (.cells (fiV f).toArray 65)).heap.size (w.alloc (.cells (fiV f).toArray 65)) wr → LoadsA Tryz.prog wr 65 ⟨w.heap.size, 0, none⟩ (fiV f).toArray ∧ wr.cell? ⟨w.heap.size, 0, none⟩ = some (.string (nmB f.nm)) := fun wr hb => by
    have e : ∀ c x, (fiV f)[c]? = some x → wr.cell? ⟨w.heap.size, c, none⟩ = some x := fun c x hx => by
      rw [hb.cell (by simp), cell_of_row _ _ _ _ _ _ hB]
      simpa using hx
    exact ⟨loads_fi fun c x hx => by rw [add_addr, Nat.zero_add]; exact e c x hx, e 0 _ rfl⟩
  have CH := Lib.hid C0
  have LH := Lib.hid LF
  clear h h1 hB FIN hf C0 LF ok
  generalize hw1 : w.alloc (.cells (fiV f).toArray 65) = w1 at *
  have sz1 : w1.heap.size = w.heap.size + 1 := by rw [← hw1]; simp
  have hw1' : w.alloc (.cells #[.string (nmB f.nm), .string (nmB f.bs), .int .i64 (f.sf : Int)] 65) = w1 := hw1
  have S0 : PutAt w1 (w1.alloc (.cells #[] 65)) f D.L (.slice (some ⟨w1.heap.size, 0, none⟩) 0 0) false 0 :=
    ⟨[], World.ownsRow_made w1 #[] 0 (Nat.zero_le _) (by unfold maxLen; omega) rfl, by simp [Value.ownBlock], (Below.refl _ _).alloc (Nat.le_refl _) _, .inl ⟨rfl, by simp, by simp⟩⟩
  have SH := Lib.hid S0
  clear S0 hw1
  generalize hB0 : w.heap.size = B0 at *
  go_enter Tryz.func69, Tryz.ntmps69
  go_wp2_with fail
  clear hw1' hB0
  rw [sz1] at SH
  go_loopw [4, 5, 6] (fun x d i wr => ∃ (k : Nat) (dn : Bool), k ≤ D.L.length ∧ d = .bool dn ∧ i = .int .i64 k ∧ PutAt w1 wr f D.L x dn k) (fun _ _ i _ => D.L.length - (intOf i).toNat)
  case atStart => exact ⟨0, false, Nat.zero_le _, rfl, rfl, SH.out⟩
  case round =>
    obtain ⟨k, dn, hk, rfl, rfl, PA⟩ := hrel
    clear SH
    obtain ⟨out, hown0, hx, hb0, inv⟩ := PA.is
    have ol := put_len inv hk
    obtain ⟨ox, cx, rfl⟩ := orow_form hown0
    have R0 := CH.out wr hb0
    have c0 := R0.cell 0
    simp [refV] at c0
    clear PA
    have HO := Lib.hid hown0
    have HB := Lib.hid hb0
    have IV := Lib.hid inv
    clear hown0 hb0 inv
    by_cases hlt : k < D.L.length
    · have l1 : (k : Int) < (D.L.length : Int) := by omega
      obtain ⟨y, hy⟩ : ∃ y, D.L[k]? = some y := ⟨_, List.getElem?_eq_getElem hlt⟩
      obtain ⟨_, _, e7, hc7⟩ := R0.form
      injection e7 with e7 _ _
      subst e7
      obtain ⟨gy, rfl, cy⟩ := hc7 k y hy
      have ny := cy 0 _ rfl
      simp only [Nat.add_zero] at ny
      have nf := (LH.out wr HB.out).2
      clear R0 hc7 cy
      cases dn with
      | true =>
        go_wp2_with fail
        go_quiet (fail)
        have hown := HO.out.kept ⟨rfl, rfl, rfl, Nat.le_refl _, fun _ _ _ => rfl⟩ (row := none) (w' := wr.drewN nq) (by cases hv : Value.ownBlock _ <;> simp)
        have hb := HB.out.trans (⟨rfl, rfl, rfl, Nat.le_refl _, fun _ _ => rfl⟩ : Below w1.heap.size wr (wr.drewN nq))
        generalize wr.drewN nq = wq at hown hb ⊢
        clear HO HB
        obtain ⟨LF0, n1⟩ := LH.out wq hb
        have LF1 : LoadsA Tryz.prog wq 65 ⟨B0, 0, none⟩ #[.string (nmB f.nm), .string (nmB f.bs), .int .i64 (f.sf : Int)] := LF0
        clear LF0
        have RQ := CH.out wq hb
        have c0 := RQ.cell 0
        simp [refV] at c0
        obtain ⟨_, _, e9, hc9⟩ := RQ.form
        injection e9 with e9 _ _
        subst e9
        obtain ⟨g9, e8, cy9⟩ := hc9 k y hy
        injection e8 with e8
        injection e8 with e8
        subst e8
        have LY : LoadsA Tryz.prog wq 65 ⟨gy, k * 3, none⟩ #[.string (nmB y.nm), .string (nmB y.bs), .int .i64 (y.sf : Int)] := loads_fi fun c x hx => by rw [add_addr]; exact cy9 c x hx
        clear RQ hc9 cy9
        have NX := Lib.hid (put_done IV.out hy)
        clear ny nf n1 LF1
        go_wp2_with (first | refine wpl_loadA LY rfl rfl rfl ?_ | (at_builtin; refine wpl_app w1.heap.size (hown.alloc (.cells #[.string (nmB y.nm), .string (nmB y.bs), .int .i64 (y.sf : Int)] 65)) hx (by have := hb.size; simp; omega) ⟨wq.heap.size, 0, none⟩ 1 (news := [y]) (fi_block (heap_alloc_new wq _)) (by simp) (by simp; omega) rfl _ _ rfl rfl rfl ?_; intro g3 cap3 w3 hown3 hg3 hb3))
        go_roundw
        case rel => exact ⟨k + 1, true, by omega, rfl, by go_num, ⟨_, by simpa using hown3, by simp [Value.ownBlock]; exact hg3, hb.trans (((Below.refl _ _).alloc hb.size _).trans hb3), NX.out⟩⟩
        case measure => simp [intOf]; omega
      | false =>
        cases hbf : bytesBefore f.nm y.nm with
        | false =>
          have gt := gtr_bef y.nm f.nm
          rw [hbf] at gt
          have NX := Lib.hid (put_past IV.out hy hbf)
          clear hbf
          go_wp2_with fail
          go_quiet (fail)
          have hown := HO.out.kept ⟨rfl, rfl, rfl, Nat.le_refl _, fun _ _ _ => rfl⟩ (row := none) (w' := wr.drewN nq) (by cases hv : Value.ownBlock _ <;> simp)
          have hb := HB.out.trans (⟨rfl, rfl, rfl, Nat.le_refl _, fun _ _ => rfl⟩ : Below w1.heap.size wr (wr.drewN nq))
          generalize wr.drewN nq = wq at hown hb ⊢
          clear HO HB
          obtain ⟨LF0, n1⟩ := LH.out wq hb
          have LF1 : LoadsA Tryz.prog wq 65 ⟨B0, 0, none⟩ #[.string (nmB f.nm), .string (nmB f.bs), .int .i64 (f.sf : Int)] := LF0
          clear LF0
          have RQ := CH.out wq hb
          have c0 := RQ.cell 0
          simp [refV] at c0
          obtain ⟨_, _, e9, hc9⟩ := RQ.form
          injection e9 with e9 _ _
          subst e9
          obtain ⟨g9, e8, cy9⟩ := hc9 k y hy
          injection e8 with e8
          injection e8 with e8
          subst e8
          have LY : LoadsA Tryz.prog wq 65 ⟨gy, k * 3, none⟩ #[.string (nmB y.nm), .string (nmB y.bs), .int .i64 (y.sf : Int)] := loads_fi fun c x hx => by rw [add_addr]; exact cy9 c x hx
          clear RQ hc9 cy9
          clear ny nf n1 LF1 gt
          go_wp2_with (first | refine wpl_loadA LY rfl rfl rfl ?_ | (at_builtin; refine wpl_app w1.heap.size (hown.alloc (.cells #[.string (nmB y.nm), .string (nmB y.bs), .int .i64 (y.sf : Int)] 65)) hx (by have := hb.size; simp; omega) ⟨wq.heap.size, 0, none⟩ 1 (news := [y]) (fi_block (heap_alloc_new wq _)) (by simp) (by simp; omega) rfl _ _ rfl rfl rfl ?_; intro g3 cap3 w3 hown3 hg3 hb3))
          go_roundw
          case rel => exact ⟨k + 1, false, by omega, rfl, by go_num, ⟨_, by simpa using hown3, by simp [Value.ownBlock]; exact hg3, hb.trans (((Below.refl _ _).alloc hb.size _).trans hb3), NX.out⟩⟩
          case measure => simp [intOf]; omega
        | true =>
          have gt := gtr_bef y.nm f.nm
          rw [hbf] at gt
          have NX := Lib.hid (put_here IV.out hy hbf)
          clear hbf
          go_wp2_with fail
          go_quiet (fail)
          have hown := HO.out.kept ⟨rfl, rfl, rfl, Nat.le_refl _, fun _ _ _ => rfl⟩ (row := none) (w' := wr.drewN nq) (by cases hv : Value.ownBlock _ <;> simp)
          have hb := HB.out.trans (⟨rfl, rfl, rfl, Nat.le_refl _, fun _ _ => rfl⟩ : Below w1.heap.size wr (wr.drewN nq))
          generalize wr.drewN nq = wq at hown hb ⊢
          clear HO HB
          obtain ⟨LF0, n1⟩ := LH.out wq hb
          have LF1 : LoadsA Tryz.prog wq 65 ⟨B0, 0, none⟩ #[.string (nmB f.nm), .string (nmB f.bs), .int .i64 (f.sf : Int)] := LF0
          clear LF0
          clear ny nf n1 gt
          go_upto_region 8 with (first | refine wpl_loadA LF1 rfl rfl rfl ?_ | (at_builtin; refine wpl_app w1.heap.size (hown.alloc (.cells #[.string (nmB f.nm), .string (nmB f.bs), .int .i64 (f.sf : Int)] 65)) hx (by have := hb.size; simp; omega) ⟨wq.heap.size, 0, none⟩ 1 (news := [f]) (fi_block (heap_alloc_new wq _)) (by simp) (by simp; omega) rfl _ _ rfl rfl rfl ?_; intro g1 cap1 w2 hown2 hg1 hb2))
          have hbt := hb.trans (((Below.refl _ _).alloc hb.size _).trans hb2)
          have hx2 : ∀ b, Value.ownBlock (.slice (some ⟨g1, 0, none⟩) (out.length + [f].length) cap1) = some b → w1.heap.size ≤ b := by simp [Value.ownBlock]; exact hg1
          clear hb2 hb hown hx
          obtain ⟨LF0, n1⟩ := LH.out w2 hbt
          have LF1 : LoadsA Tryz.prog w2 65 ⟨B0, 0, none⟩ #[.string (nmB f.nm), .string (nmB f.bs), .int .i64 (f.sf : Int)] := LF0
          clear LF0
          have RQ := CH.out w2 hbt
          have c0 := RQ.cell 0
          simp [refV] at c0
          obtain ⟨_, _, e9, hc9⟩ := RQ.form
          injection e9 with e9 _ _
          subst e9
          obtain ⟨g9, e8, cy9⟩ := hc9 k y hy
          injection e8 with e8
          injection e8 with e8
          subst e8
          have LY : LoadsA Tryz.prog w2 65 ⟨gy, k * 3, none⟩ #[.string (nmB y.nm), .string (nmB y.bs), .int .i64 (y.sf : Int)] := loads_fi fun c x hx => by rw [add_addr]; exact cy9 c x hx
          clear RQ hc9 cy9
          clear n1 LF1
          go_wp2_with (first | refine wpl_loadA LY rfl rfl rfl ?_ | (at_builtin; refine wpl_app w1.heap.size (hown2.alloc (.cells #[.string (nmB y.nm), .string (nmB y.bs), .int .i64 (y.sf : Int)] 65)) hx2 (by have := hbt.size; simp; omega) ⟨w2.heap.size, 0, none⟩ 1 (news := [y]) (fi_block (heap_alloc_new w2 _)) (by simp) (by simp; omega) rfl _ _ rfl rfl rfl ?_; intro g3 cap3 w3 hown3 hg3 hb3))
          go_roundw
          case rel => exact ⟨k + 1, true, by omega, rfl, by go_num, ⟨out ++ [f] ++ [y], by first | exact hown3 | simpa [Nat.add_assoc] using hown3, by simp [Value.ownBlock]; exact hg3, hbt.trans (((Below.refl _ _).alloc hbt.size _).trans hb3), NX.out⟩⟩
          case measure => simp [intOf]; omega
    · have l1 : ¬ (k : Int) < (D.L.length : Int) := by omega
      have ek : k = D.L.length := by omega
      have f0 := R0.frozen 0
      have hd0 : D.L.drop k = [] := List.drop_of_length_le (by omega)
      cases dn with
      | true =>
        have eo : insF f D.L = out := by
          rcases IV.out with ⟨e, _⟩ | ⟨_, e, _⟩
          · cases e
          · rw [e, hd0, List.append_nil]
        have FN := Lib.hid (FH.out wr _ HB.out (by rw [eo]; exact HO.out) hx)
        clear R0 eo hd0 IV HO HB
        go_wp2
        exact bodyPost_end (v := .tuple #[]) (by simp [results, Tryz.results69, go_sem]) rfl ⟨rfl, FN.out⟩
      | false =>
        have eo : insF f D.L = out ++ [f] := by
          rcases IV.out with ⟨_, e1, e2⟩ | ⟨e, _⟩
          · rw [e2, hd0, e1, ins_none]
          · cases e
        have hown := HO.out
        have hb := HB.out
        obtain ⟨LF0, n1⟩ := LH.out wr hb
        have LF1 : LoadsA Tryz.prog wr 65 ⟨B0, 0, none⟩ #[.string (nmB f.nm), .string (nmB f.bs), .int .i64 (f.sf : Int)] := LF0
        have KP : ∀ w2, Below w1.heap.size w1 w2 → w2.cell? ⟨u, 0, none⟩ = some (.slice o D.L.length cap) ∧ w2.frozen? ⟨u, 0, none⟩ = false := fun w2 hb => by
          have r := CH.out w2 hb
          have c := r.cell 0
          simp [refV] at c
          exact ⟨c, r.frozen 0⟩
        have KH := Lib.hid KP
        have EO := Lib.hid eo
        clear LF0 n1 R0 hd0 IV HO HB KP eo
        go_wp2_with (first | refine wpl_loadA LF1 rfl rfl rfl ?_ | (at_builtin; refine wpl_app w1.heap.size (hown.alloc (.cells #[.string (nmB f.nm), .string (nmB f.bs), .int .i64 (f.sf : Int)] 65)) hx (by have := hb.size; simp; omega) ⟨wr.heap.size, 0, none⟩ 1 (news := [f]) (fi_block (heap_alloc_new wr _)) (by simp) (by simp; omega) rfl _ _ rfl rfl rfl ?_; intro g1 cap1 w2 hown2 hg1 hb2; have hbt := hb.trans (((Below.refl _ _).alloc hb.size _).trans hb2); obtain ⟨d0, d1⟩ := KH.out w2 hbt))
        exact bodyPost_end (v := .tuple #[]) (by simp [results, Tryz.results69, go_sem]) rfl ⟨rfl, FH.out w2 _ hbt (by rw [EO.out]; simpa using hown2) (by simp [Value.ownBlock]; exact hg1)⟩
end
end Go.Proofs.YtdmgobffhpgjlaaGreat.Pk
