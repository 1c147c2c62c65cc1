/-
  The document's drop and turn.
-/
import Derived.Test.YtdmgobffhpgjlaaGreatPkRef4
namespace Go.Proofs.YtdmgobffhpgjlaaGreat.Pk
open Go.RowKit Go.PlainAid Go.Maps
set_option linter.unusedVariables false
set_option maxRecDepth 20000
set_option linter.unusedSimpArgs false

theorem wpl_appA {w : World} {ops : Array Oper} {rest : List Oper} {o : Oper} {a : Act} {Q : Exit → Act → World → Prop} (N : Nat) {x : Value} {l news : List Fi} (hown : w.ownsRow 0 65 3 x l.length (rowF l)) (hx : ∀ b, x.ownBlock = some b → N ≤ b) (hN : N ≤ w.heap.size)
    (ad : Addr) (m c : Nat) (hm : m = news.length) (hcells : ∀ j y, (rowF news)[j]? = some y → w.cell? (ad.add j) = some y) (hlen : l.length + news.length ≤ 1000)
    (hgd : o.guard = none) (s y : Operand) (hop : o.op = .call { callee := .builtin .append, args := #[s, y], argTypes := #[61, 61] }) (hs : a.eval s = x) (hy : a.eval y = .slice (some ad) m c)
    (hK : ∀ o' cap w', w'.ownsRow 0 65 3 (.slice o' (l ++ news).length cap) (l ++ news).length (rowF (l ++ news)) → (∀ b, Value.ownBlock (.slice o' (l ++ news).length cap) = some b → N ≤ b) → Below N w w' → wpList Tryz.prog ops Q rest (a.put o.dst (.slice o' (l ++ news).length cap)) w') :
    wpList Tryz.prog ops Q (o :: rest) a w := by
  subst hm
  obtain ⟨i, hi, hz, hs1, hb1⟩ := info_parts info_fi
  refine wpList_append_own_at w hgd s y 61 hop 0 65 i _ 3 40 Tryz.underlying61 hi hz hs1 hb1 rfl (by decide) x l.length (rowF l) hs hown ad news.length c (rowF news) hy (rowF_len news) hcells (rowF_one news) (by unfold maxLen; omega) (by omega) (Nat.zero_le _) ?_
  intro v' w' h1 h2 _ h3
  rw [← rowF_app, ← List.length_append] at h1
  obtain ⟨o', cap, rfl⟩ := orow_form h1
  refine hK o' cap w' h1 ?_ ((Below.refl N w).grown h2 hN fun k hk => hx k hk)
  intro b hb
  rcases h3 with c | c
  · exact hx b (by rw [← c]; exact hb)
  · rw [c] at hb
    injection hb with hb
    omega
theorem size_fi (w : World) : (sizeOf 65).run Tryz.prog w = .ok 3 w := size_of (by kernel_rfl) w
theorem fcut_to (w : World) (g n cap k : Nat) (hk : k ≤ cap) :
    (Instr.sliceAt 61 (.slice (some ⟨g, 0, none⟩) n cap) none (some (.int .i64 (k : Int))) none).run Tryz.prog w = .ok (.slice (some ⟨g, 0, none⟩) k cap) w := by
  have h0 : (0 : Int) ≤ (k : Int) := by omega
  have h1 : (k : Int) ≤ (cap : Int) := by omega
  have hz := size_fi w
  by_cases h2 : cap = 0
  · subst h2
    obtain rfl : k = 0 := by omega
    simp [Instr.sliceAt, Instr.slice, run_underlying Tryz.underlying61, Instr.sliceBounds, run_sliceBound, hz]
  · simp [Instr.sliceAt, Instr.slice, run_underlying Tryz.underlying61, Instr.sliceBounds, run_sliceBound, hz, h0, h1, h2, add_addr]
theorem fcut_from (w : World) (g n cap k : Nat) (hk : k ≤ n) :
    (Instr.sliceAt 61 (.slice (some ⟨g, 0, none⟩) n cap) (some (.int .i64 (k : Int))) none none).run Tryz.prog w = .ok (.slice (some ⟨g, if cap = k then 0 else k * 3, none⟩) (n - k) (cap - k)) w := by
  have h0 : (0 : Int) ≤ (k : Int) := by omega
  have h1 : (k : Int) ≤ (n : Int) := by omega
  have hz := size_fi w
  by_cases h2 : cap = k
  · simp [Instr.sliceAt, Instr.slice, run_underlying Tryz.underlying61, Instr.sliceBounds, run_sliceBound, hz, h0, h1, h2]
  · simp [Instr.sliceAt, Instr.slice, run_underlying Tryz.underlying61, Instr.sliceBounds, run_sliceBound, hz, h0, h1, h2, add_addr]
theorem del_at {l : List Fi} (h : l.Pairwise fun x y => x.nm ≠ y.nm) {i : Nat} {f : Fi} (hi : l[i]? = some f) : delF f.nm l = l.take i ++ l.drop (i + 1) := by
  induction l generalizing i with
  | nil => simp at hi
  | cons x r ih =>
    obtain ⟨h1, h2⟩ := List.pairwise_cons.1 h
    rcases i with _ | i
    · simp at hi
      subst hi
      have := del_none (k := x.nm) (l := r) fun y hy => (h1 y hy).symm
      simp only [delF, List.filter_cons, beq_self_eq_true, Bool.not_true, Bool.false_eq_true, if_false] at this ⊢
      rw [this]
      simp
    · simp at hi
      have hm := List.mem_of_getElem? hi
      have e : delF f.nm (x :: r) = x :: delF f.nm r := by
        simp only [delF, List.filter_cons]
        rw [if_pos (by simpa using h1 f hm)]
      rw [e, ih h2 hi]
      simp
theorem upd_at {l : List Fi} (h : l.Pairwise fun x y => x.nm ≠ y.nm) {i : Nat} {f g : Fi} (hi : l[i]? = some f) : updF f.nm g l = l.set i g := by
  induction l generalizing i with
  | nil => simp at hi
  | cons x r ih =>
    obtain ⟨h1, h2⟩ := List.pairwise_cons.1 h
    rcases i with _ | i
    · simp at hi
      subst hi
      have := upd_none (k := x.nm) (g := g) (l := r) fun y hy => (h1 y hy).symm
      simp only [updF, List.map_cons, beq_self_eq_true, if_true] at this ⊢
      rw [this]
      simp
    · simp at hi
      have hm := List.mem_of_getElem? hi
      have e : updF f.nm g (x :: r) = x :: updF f.nm g r := by
        simp only [updF, List.map_cons]
        rw [if_neg (by simpa using h1 f hm)]
      rw [e, ih h2 hi]
      simp
section
variable {w w' : World} {u : Nat} {v : Value} {a mo : Int} {D : Dk}
set_option maxRecDepth 100000 in
set_option maxHeartbeats 2000000 in
theorem rdrop_any (h : RefAt w u v a mo D) {i : Nat} {f : Fi} (hi : D.L[i]? = some f) :
    Calls Tryz.prog 68 #[.pointer (some ⟨u, 0, none⟩), .int .i64 (i : Int)] w fun e w' => e = .returned (.tuple #[]) ∧ RPost w w' u v { D with L := delF f.nm D.L } := by
  have hlt := (List.getElem?_eq_some_iff.1 hi).1
  have hcn := h.ok.cnt
  have ed := del_at h.ok.up.ne hi
  have FIN : ∀ wr x, Below w.heap.size w wr → wr.ownsRow 0 65 3 x (delF f.nm D.L).length (rowF (delF f.nm D.L)) → (∀ b, x.ownBlock = some b → w.heap.size ≤ b) → RPost w (wr.setCell ⟨u, 0, none⟩ x) u v { D with L := delF f.nm D.L } :=
    fun wr x hb hr hx => h.setRow hb hr hx (h.ok.del f.nm)
  rw [ed] at FIN ⊢
  have FH := Lib.hid FIN
  have KP : ∀ w2, Below w.heap.size w w2 → RefAt w2 u v a mo D := fun w2 hb => h.kept fun b z => hb.block b (h.lt z)
  have KH := Lib.hid KP
  obtain ⟨g, cap, ev, hcap⟩ : ∃ g cap, v = .slice (some ⟨g, 0, none⟩) D.L.length cap ∧ D.L.length ≤ cap := by
    rcases h.row.2 with ⟨_, h0⟩ | ⟨g, cap, cur, e, _, _, hn, _⟩
    · omega
    · exact ⟨g, cap, e, hn⟩
  subst ev
  have CL : ∀ w2, Below w.heap.size w w2 → ∀ j y, (rowF D.L)[j]? = some y → w2.cell? ⟨g, j, none⟩ = some y := fun w2 hb j y hj => by
    have := (KP w2 hb).row.cells (g := g) rfl j y hj
    rw [add_addr, Nat.zero_add] at this
    exact this
  have CH := Lib.hid CL
  have c0 := h.cell 0
  have z0 := h.frozen 0
  simp [refV] at c0
  have S1 := fun w2 => fcut_to w2 g D.L.length cap i (by omega)
  have S2 := fun w2 => fcut_from w2 g D.L.length cap (i + 1) (by omega)
  have bw : Below w.heap.size w (w.alloc (.cells #[] 65)) := (Below.refl _ _).alloc (Nat.le_refl _) _
  have C1 : ∀ j y, (rowF (D.L.take i))[j]? = some y → (w.alloc (.cells #[] 65)).cell? ((⟨g, 0, none⟩ : Addr).add j) = some y := by
    intro j y hj
    rw [add_addr, Nat.zero_add]
    refine CL _ bw j y ?_
    have e : rowF D.L = rowF (D.L.take i) ++ rowF (D.L.drop i) := by rw [← rowF_app, List.take_append_drop]
    rw [e, List.getElem?_append_left (List.getElem?_eq_some_iff.1 hj).1]
    exact hj
  have C2 : ∀ w2, Below w.heap.size w w2 → ∀ j y, (rowF (D.L.drop (i + 1)))[j]? = some y → w2.cell? ((⟨g, if cap = i + 1 then 0 else (i + 1) * 3, none⟩ : Addr).add j) = some y := by
    intro w2 hb j y hj
    by_cases hc : cap = i + 1
    · have : D.L.drop (i + 1) = [] := List.drop_of_length_le (by omega)
      rw [this] at hj
      simp [rowF] at hj
    · rw [if_neg hc, add_addr]
      refine CL w2 hb _ y ?_
      have e : rowF D.L = rowF (D.L.take (i + 1)) ++ rowF (D.L.drop (i + 1)) := by rw [← rowF_app, List.take_append_drop]
      have el : (rowF (D.L.take (i + 1))).length = (i + 1) * 3 := by rw [rowF_len]; simp; omega
      rw [e, List.getElem?_append_right (by omega), el]
      simpa using hj
  have C2H := Lib.hid C2
  have hown0 := World.ownsRow_made w (e := 65) (size := 3) (base := 0) #[] 0 (Nat.zero_le _) (by unfold maxLen; omega) rfl
  have t1 : (D.L.take i).length = i := by simp; omega
  have w1 : IntKind.i64.wrap ((i : Int) + 1) = (i : Int) + 1 := IntWalk.i64_in _ (by omega)
  generalize (if cap = i + 1 then 0 else (i + 1) * 3) = off2 at *
  have S2' : ∀ w2, (Instr.sliceAt 61 (.slice (some ⟨g, 0, none⟩) D.L.length cap) (some (.int .i64 ((i : Int) + 1))) none none).run Tryz.prog w2 = .ok (.slice (some ⟨g, off2, none⟩) (D.L.length - (i + 1)) (cap - (i + 1))) w2 := S2
  have CE : ∀ w2, Below w.heap.size w w2 → w2.cell? ⟨u, 0, none⟩ = some (.slice (some ⟨g, 0, none⟩) D.L.length cap) ∧ w2.frozen? ⟨u, 0, none⟩ = false := fun w2 hb => by
    have r := KP w2 hb
    have c := r.cell 0
    simp [refV] at c
    exact ⟨c, r.frozen 0⟩
  have CEH := Lib.hid CE
  have cA := (CE _ bw).1
  have t2 : (D.L.drop (i + 1)).length = D.L.length - (i + 1) := by simp
  clear S2 CL C2 KP FIN h ed CE c0 z0
  go_enter Tryz.func68, Tryz.ntmps68
  go_upto_region 1 with (first | (at_builtin; refine wpl_appA w.heap.size (l := []) (news := D.L.take i) hown0 (by simp [Value.ownBlock]) bw.size ⟨g, 0, none⟩ i cap t1.symm C1 (by simp; omega) rfl _ _ rfl rfl rfl ?_; intro o2 cap2 w2 hown2 hx2 hb2))
  have hown2' : w2.ownsRow 0 65 3 (.slice o2 i cap2) (D.L.take i).length (rowF (D.L.take i)) := by
    have := hown2
    simp only [List.nil_append] at this
    rw [t1] at this ⊢
    exact this
  have hx2' : ∀ b, Value.ownBlock (.slice o2 i cap2) = some b → w.heap.size ≤ b := by
    have := hx2
    simp only [List.nil_append] at this
    rw [t1] at this
    exact this
  clear hown2 hx2
  have t3 : (D.L.take i ++ D.L.drop (i + 1)).length = i + (D.L.length - (i + 1)) := by rw [List.length_append, t1, t2]
  have T3 := Lib.hid t3
  clear t3
  have bt := bw.trans hb2
  have C3 := C2H.out w2 bt
  obtain ⟨c2, _⟩ := CEH.out w2 bt
  have hbs := bt.size
  clear cA hown0 C1 hb2 C2H
  go_wp2_with (first | (at_builtin; refine wpl_appA w.heap.size (news := D.L.drop (i + 1)) hown2' hx2' hbs ⟨g, off2, none⟩ (D.L.length - (i + 1)) (cap - (i + 1)) t2.symm C3 (by simp; omega) rfl _ _ rfl rfl rfl ?_; intro o3 cap3 w3 hown3 hx3 hb3; obtain ⟨c3, z3⟩ := CEH.out w3 (bt.trans hb3)))
  exact bodyPost_end (v := .tuple #[]) (by simp [results, Tryz.results68, go_sem]) rfl ⟨rfl, FH.out w3 _ (bt.trans hb3) (by rw [T3.out] at hown3 ⊢; exact hown3) (by rw [T3.out] at hx3; exact hx3)⟩
end
end Go.Proofs.YtdmgobffhpgjlaaGreat.Pk
