/-
  Contracts of Size, Safe, Bytes, Used, Names and Arm.
-/
import Derived.Test.YtdmgobffhpgjlaaGreatPkRow
import Derived.Test.YtdmgobffhpgjlaaGreatPkIter

namespace Go.Proofs.YtdmgobffhpgjlaaGreat.Pk
open Go.RowKit Go.PlainAid Go.Maps
set_option linter.unusedVariables false
set_option maxRecDepth 20000
set_option linter.unusedSimpArgs false

section
variable {w : World} {p m : Nat} {G : Gs} {D : Dk}
theorem FileAt.cell0 {f : Fi} {x : Nat × Value} (h : FileAt w f x) : w.cell? ⟨x.1, 0, none⟩ = some x.2 := cell_of_row _ _ _ _ _ _ h.st
theorem FileAt.cell1 {f : Fi} {x : Nat × Value} (h : FileAt w f x) : w.cell? ⟨x.1, 1, none⟩ = some (.int .i64 (f.sf : Int)) := cell_of_row _ _ _ _ _ _ h.st
theorem FileAt.frozen {f : Fi} {x : Nat × Value} (h : FileAt w f x) (j : Nat) : w.frozen? ⟨x.1, j, none⟩ = false := frozen_of_row _ _ _ _ _ h.st
set_option maxRecDepth 100000 in
set_option maxHeartbeats 1000000 in
theorem size_any (h : DiskAt w p m G D) {s : ByteArray} (hs : s.size ≤ 9223372036854775807) :
    Calls Tryz.prog 66 #[.pointer (some ⟨p, 0, none⟩), .string s] w fun e w' => e = .returned (.int .i64 (D.size (kl s))) ∧ w = w' := by
  have F := find_any h hs
  unfold Dk.size
  cases hg : getF (kl s) D.L with
  | none =>
    rw [hg] at F
    simp only [fp, Option.map_none] at F ⊢
    clear h hg
    go_enter Tryz.func66, Tryz.ntmps66
    go_wp2_with fail
    refine F.mono ?_
    rintro e w' ⟨rfl, rfl⟩
    clear F
    go_wp2
    go_ret
    exact ⟨rfl, rfl⟩
  | some f =>
    rw [hg] at F
    simp only [fp, Option.map_some] at F ⊢
    have hf := h.file f (get_some hg).1
    obtain ⟨o, cap, e1, _⟩ := hf.row.form
    have c0 := hf.cell0
    rw [e1] at c0
    clear h hg hf e1
    generalize (G f.nm).1 = g at *
    generalize f.bs.length = n at *
    go_enter Tryz.func66, Tryz.ntmps66
    go_wp2_with fail
    refine F.mono ?_
    rintro e w' ⟨rfl, rfl⟩
    clear F
    go_wp2
    go_ret
    exact ⟨rfl, rfl⟩
set_option maxRecDepth 100000 in
set_option maxHeartbeats 1000000 in
theorem safe_any (h : DiskAt w p m G D) {s : ByteArray} (hs : s.size ≤ 9223372036854775807) :
    Calls Tryz.prog 34 #[.pointer (some ⟨p, 0, none⟩), .string s] w fun e w' => e = .returned (.int .i64 (D.safe (kl s))) ∧ w = w' := by
  have F := find_any h hs
  unfold Dk.safe
  cases hg : getF (kl s) D.L with
  | none =>
    rw [hg] at F
    simp only [fp, Option.map_none] at F ⊢
    clear h hg
    go_enter Tryz.func34, Tryz.ntmps34
    go_wp2_with fail
    refine F.mono ?_
    rintro e w' ⟨rfl, rfl⟩
    clear F
    go_wp2
    go_ret
    exact ⟨rfl, rfl⟩
  | some f =>
    rw [hg] at F
    simp only [fp, Option.map_some] at F ⊢
    have hf := h.file f (get_some hg).1
    have c0 := hf.cell1
    clear h hg hf
    generalize (G f.nm).1 = g at *
    go_enter Tryz.func34, Tryz.ntmps34
    go_wp2_with fail
    refine F.mono ?_
    rintro e w' ⟨rfl, rfl⟩
    clear F
    go_wp2
    go_ret
    exact ⟨rfl, rfl⟩
set_option maxRecDepth 100000 in
set_option maxHeartbeats 1000000 in
theorem bytes_any (h : DiskAt w p m G D) {s : ByteArray} (hs : s.size ≤ 9223372036854775807) :
    Calls Tryz.prog 33 #[.pointer (some ⟨p, 0, none⟩), .string s] w fun e w' => e = .returned (.string ⟨(D.bytes (kl s)).toArray⟩) ∧ w = w' := by
  have F := find_any h hs
  unfold Dk.bytes
  cases hg : getF (kl s) D.L with
  | none =>
    rw [hg] at F
    simp only [fp, Option.map_none] at F ⊢
    clear h hg
    go_enter Tryz.func33, Tryz.ntmps33
    go_wp2_with fail
    refine F.mono ?_
    rintro e w' ⟨rfl, rfl⟩
    clear F
    go_wp2
    go_ret
    exact ⟨rfl, rfl⟩
  | some f =>
    rw [hg] at F
    simp only [fp, Option.map_some] at F ⊢
    have hf := h.file f (get_some hg).1
    obtain ⟨o, cap, e1, _⟩ := hf.row.form
    have c0 := hf.cell0
    have T := hf.row.text
    rw [e1] at c0 T
    clear h hg hf e1
    generalize (G f.nm).1 = g at *
    generalize f.bs.length = n at *
    generalize (ByteArray.mk f.bs.toArray) = t at *
    go_enter Tryz.func33, Tryz.ntmps33
    go_wp2_with fail
    refine F.mono ?_
    rintro e w' ⟨rfl, rfl⟩
    clear F
    go_wp2
    go_ret
    exact ⟨rfl, rfl⟩
end

/-! ### the sum over a map, in whatever order -/
def leftF (left : Lit → Bool) (l : List Fi) : Nat := usedF (l.filter fun f => !left (.string f.nm))
theorem leftF_start (G : Gs) (l : List Fi) : leftF (Maps.has (datum G l)) l = 0 := by
  unfold leftF
  rw [List.filter_eq_nil_iff.2]
  · rfl
  · intro f hf
    have : Maps.has (datum G l) (.string f.nm) = true := by
      unfold datum
      rw [has_eq, List.any_eq_true]
      exact ⟨ent G f, List.mem_map.2 ⟨f, hf, rfl⟩, by simp [ent, Lit.sameKey]⟩
    simp [this]
theorem leftF_end {left : Lit → Bool} (h : ∀ k, left k = false) (l : List Fi) : leftF left l = usedF l := by
  unfold leftF
  rw [List.filter_eq_self.2]
  intro f hf
  simp [h]
theorem leftF_step {left : Lit → Bool} {l : List Fi} (hu : l.Pairwise fun x y => x.nm ≠ y.nm) {f : Fi} (hf : f ∈ l) (h : left (.string f.nm) = true) : leftF (fun z => left z && !z.sameKey (.string f.nm)) l = leftF left l + f.bs.length := by
  unfold leftF
  induction l with
  | nil => simp at hf
  | cons a r ih =>
    obtain ⟨h1, h2⟩ := List.pairwise_cons.1 hu
    rcases List.mem_cons.1 hf with rfl | hf
    · have e : (r.filter fun g => !(left (.string g.nm) && !(Lit.string g.nm).sameKey (.string f.nm))) = r.filter fun g => !left (.string g.nm) := by
        refine List.filter_congr fun g hg => ?_
        have : ((Lit.string g.nm).sameKey (.string f.nm)) = false := by
          simpa [Lit.sameKey] using (h1 g hg).symm
        rw [this]
        simp
      rw [List.filter_cons, List.filter_cons, if_pos (by simp [Lit.sameKey]), if_neg (by simp [h]), e]
      simp [usedF]
      omega
    · have hne := h1 f hf
      have : ((Lit.string a.nm).sameKey (.string f.nm)) = false := by simpa [Lit.sameKey] using hne
      have ih := ih h2 hf
      rw [List.filter_cons, List.filter_cons]
      simp only [this] at ih ⊢
      by_cases c : left (.string a.nm) = true
      · rw [if_neg (by simp [c]), if_neg (by simp [c])]
        exact ih
      · rw [if_pos (by simp [c]), if_pos (by simp [c])]
        simp only [usedF, ih]
        omega
theorem leftF_le (left : Lit → Bool) (l : List Fi) : leftF left l ≤ usedF l := by
  unfold leftF
  induction l with
  | nil => simp [usedF]
  | cons a r ih =>
    rw [List.filter_cons]
    split
    · simp [usedF]; omega
    · simp [usedF]; omega
section
variable {w : World} {p m : Nat} {G : Gs} {D : Dk}
theorem wpl_next {ops : Array Oper} {rest : List Oper} {o : Oper} {a : Act} {Q : Exit → Act → World → Prop} (hgd : o.guard = none) (it : Operand) (hop : o.op = Op.next it false) {r n cnt : Nat} {l : List Fi} {left : Lit → Bool}
    (hit : a.eval it = .pointer (some ⟨r, 0, none⟩)) (h : w.ranges Tryz.prog 9 RF m r n (datum G l) left cnt)
    (hDone : (∀ k, left k = false) → wpList Tryz.prog ops Q rest (a.put o.dst (.tuple #[.bool false])) w)
    (hMore : ∀ f ∈ l, left (.string f.nm) = true → ∀ (w' : World) (cnt' : Nat), w'.ranges Tryz.prog 9 RF m r n (datum G l) (fun z => left z && !z.sameKey (.string f.nm)) cnt' → cnt' < cnt → w.grownBy w' (some r) →
      (Instr.entry (.pointer (some ⟨r, 0, none⟩))).run Tryz.prog w' = .ok (.tuple #[.string ⟨f.nm.toArray⟩, .pointer (some ⟨(G f.nm).1, 0, none⟩)]) w' → wpList Tryz.prog ops Q rest (a.put o.dst (.tuple #[.bool true, .string ⟨f.nm.toArray⟩, .pointer (some ⟨(G f.nm).1, 0, none⟩)])) w') :
    wpList Tryz.prog ops Q (o :: rest) a w := by
  refine wpList_plain hgd fun K' hK' => ?_
  unfold Oper.wp
  rcases h.next kname o.type with ⟨h0, hl, hrun⟩ | ⟨key, v, kk, y, w', cnt', hkey, hlk, hv, hat, hrun, hrg, hlt, hgr, hsz, hen⟩
  · simp [execOp, hop, hit, hrun, Result.andThen]
    exact hK' _ _ (hDone hl)
  · obtain ⟨x, rfl, rfl, _⟩ := Maps.keyOf_str Tryz.underlying9 hkey
    have e := hat .nil
    have e' := hat (.lit (.bool true))
    rw [datum_at] at e e'
    cases hgf : getF x l with
    | none =>
      rw [hgf] at e e'
      simp only at e e'
      rw [← e] at e'
      cases e'
    | some f =>
      rw [hgf] at e
      obtain ⟨hf, rfl⟩ := get_some hgf
      obtain ⟨y1, y2⟩ := y
      simp only at e
      subst e
      have ev := RF_inv hv
      subst ev
      simp [execOp, hop, hit, hrun, Result.andThen]
      exact hK' _ _ (hMore f hf hlk w' cnt' hrg hlt hgr hen)
theorem used_small (h : DiskAt w p m G D) : usedF D.L ≤ 4194304 := by
  have := h.ok.used
  have := h.ok.room1
  omega
set_option maxRecDepth 100000 in
set_option maxHeartbeats 1000000 in
theorem used_any (h : DiskAt w p m G D) :
    Calls Tryz.prog 49 #[.pointer (some ⟨p, 0, none⟩)] w fun e w' => e = .returned (.int .i64 (usedF D.L : Int)) ∧ Below w.heap.size w w' := by
  have c1 := h.hand
  have hown := h.map
  have hus := used_small h
  have hlt := in_heap h.head
  have hno := h.ok.up.ne
  have C : ∀ f ∈ D.L, ∀ w', Below w.heap.size w w' → ∃ o cap, w'.cell? ⟨(G f.nm).1, 0, none⟩ = some (.slice o f.bs.length cap) := by
    intro f hf w' hb
    obtain ⟨o, cap, e1, _⟩ := (h.file f hf).row.form
    have c0 := (h.file f hf).cell0
    rw [e1] at c0
    exact ⟨o, cap, by rw [hb.cell (in_heap (h.file f hf).st)]; exact c0⟩
  have CH := Lib.hid C
  have NO := Lib.hid hno
  clear h C hno
  go_enter Tryz.func49, Tryz.ntmps49
  go_wp2_with (first | (at_range; refine wpList_range_own _ rfl _ 70 rfl 9 86 kname Tryz.underlying70 _ m D.L.length _ rfl hown ?_; intro w0 hrg0 hg0 hs0) | go_in)
  go_frame
  go_loopw [3] (fun x wr => ∃ left cnt, wr.ranges Tryz.prog 9 RF m w.heap.size D.L.length (datum G D.L) left cnt ∧ x = .int .i64 (leftF left D.L : Nat) ∧ Below w.heap.size w wr) (fun _ wr => wr.rangeLeft m w.heap.size)
  case atStart => exact ⟨_, _, hrg0, by rw [leftF_start]; rfl, (Below.refl _ _).grown hg0 (Nat.le_refl _) (by simp)⟩
  case round =>
    obtain ⟨left, cnt, hrg, rfl, hb⟩ := hrel
    go_wp2_with (first | (at_next; refine wpl_next rfl _ rfl rfl hrg ?_ ?_))
    · intro hl0
      go_wp2
      go_ret
      exact ⟨by rw [leftF_end hl0]; rfl, hb⟩
    · intro f hf hlk w2 cnt2 hrg2 hlt2 hg2 hen
      have hb2 := hb.grown hg2 (by have := hb.size; exact this) (by simp)
      obtain ⟨o, cap, c0⟩ := CH.out f hf w2 hb2
      have st := leftF_step NO.out hf hlk
      have le := leftF_le (fun z => left z && !z.sameKey (.string f.nm)) D.L
      rw [st] at le
      go_wp2
      go_roundw
      case rel => exact ⟨_, _, hrg2, by rw [st]; go_num, hb2⟩
      case measure => rw [hrg2.left_eq, hrg.left_eq]; exact hlt2
end

/-! ### names, rising -/
theorem before_lt : ∀ {a b : Bs}, bytesBefore a b = true → a < b
  | [], [], h => by simp [bytesBefore] at h
  | [], _ :: _, _ => List.nil_lt_cons _ _
  | _ :: _, [], h => by simp [bytesBefore] at h
  | a :: r, b :: s, h => by
    simp only [bytesBefore, Bool.or_eq_true, Bool.and_eq_true, decide_eq_true_eq, beq_iff_eq] at h
    rw [List.cons_lt_cons_iff]
    rcases h with h | ⟨h, h'⟩
    · exact .inl h
    · exact .inr ⟨h, before_lt h'⟩
theorem sorted_names {l : List Fi} (h : Up l) : (l.map Fi.nm).mergeSort leB = l.map Fi.nm := by
  refine List.mergeSort_of_pairwise ?_
  rw [List.pairwise_map]
  refine h.imp fun {x y} hxy => ?_
  simp only [leB, decide_eq_true_eq]
  exact List.le_of_lt (before_lt hxy)
def nmV (f : Fi) : Value := .string ⟨f.nm.toArray⟩
/-- v is the row of the files' names, in a block that isn't below base -/
def NmAt (w : World) (base : Nat) (v : Value) (l : List Fi) : Prop := ∃ o cap, v = .slice o l.length cap ∧ ∀ j f, l[j]? = some f → ∃ g, o = some ⟨g, 0, none⟩ ∧ base ≤ g ∧ g < w.heap.size ∧ w.cell? ⟨g, j, none⟩ = some (nmV f)
theorem strKeys_datum (G : Gs) (l : List Fi) : strKeys (datum G l) = l.map Fi.nm := by
  show (l.map (ent G)).map (fun p => strOf p.1) = _
  rw [List.map_map]
  rfl
section
variable {w : World} {p m : Nat} {G : Gs} {D : Dk}
set_option maxRecDepth 100000 in
set_option maxHeartbeats 1000000 in
theorem list_any (h : DiskAt w p m G D) :
    Calls Tryz.prog 31 #[.pointer (some ⟨p, 0, none⟩)] w fun e w' => ∃ v, e = .returned v ∧ NmAt w' w.heap.size v D.L ∧ Below w.heap.size w w' := by
  have c1 := h.hand
  have cn := h.ok.cnt
  have hsz : Maps.size (datum G D.L) ≤ 200 := by rw [datum_size]; exact cn
  have K := callsIn_wide.1 (keys_call (some m) w)
  have S := callsIn_wide.1 (sorted_call m D.L.length (datum G D.L) RF w h.map (by unfold maxLen; omega) (by omega))
  have U := h.ok.up
  clear h
  go_enter Tryz.func31, Tryz.ntmps31
  go_wp2_with fail
  refine K.mono ?_
  rintro e w' ⟨rfl, rfl⟩
  go_wp2_with fail
  refine S.mono ?_
  rintro e w' ⟨v, ss, rfl, hS, hrow, hnil, hb⟩
  clear K S
  go_wp2
  go_ret
  refine ⟨v, rfl, ?_, ((Below.refl _ w).alloc (Nat.le_refl _) _).trans (hb.mono (by simp))⟩
  have e1 : ss.mergeSort leB = D.L.map Fi.nm := by
    rw [mergeSort_of_perm hS, strKeys_datum, sorted_names U]
  have e2 : ss.length = D.L.length := by
    rw [hS.length_eq, strKeys_datum]; simp
  have hrow' : w'.ownsRow (w.alloc (.cells #[.map (some m)] 70)).heap.size 9 1 v ss.length ((ss.mergeSort leB).map encStr) := hrow
  rw [e1, e2] at hrow'
  rcases hrow'.2 with ⟨rfl, h0⟩ | ⟨g, cap, cur, rfl, hbg, hg, _⟩
  · have : D.L = [] := List.eq_nil_of_length_eq_zero h0
    rw [this]
    exact ⟨none, 0, rfl, by simp⟩
  · refine ⟨some ⟨g, 0, none⟩, cap, rfl, fun j f hj => ⟨g, rfl, ?_, in_heap hg, ?_⟩⟩
    · simp at hbg
      omega
    · have := hrow'.cells (g := g) rfl j (nmV f) (by simp [hj, nmV])
      rw [add_addr, Nat.zero_add] at this
      exact this
set_option maxRecDepth 100000 in
set_option maxHeartbeats 1000000 in
theorem arm_any (h : DiskAt w p m G D) (ho : D.ops ≤ 1099511627776) (pos kind more : Int) (hm : more ≤ 9223372036854775807) :
    Calls Tryz.prog 11 #[.pointer (some ⟨p, 0, none⟩), .int .i64 pos, .int .i64 kind, .int .i64 more] w fun e w' => e = .returned (.tuple #[]) ∧ DiskAt w' p m G (D.arm pos kind more) ∧ Goes w w' (zone p m G D.L) (zone p m G D.L) := by
  have o0 := h.ok.ops0
  have okA : { D with kd := 0, fa := 0, fm := 0 }.Ok := ⟨h.ok.room0, h.ok.room1, h.ok.ops0, .inl rfl, by simp, by simp, by simp, by simp, h.ok.up, h.ok.names, h.ok.safe, h.ok.used, h.ok.cnt⟩
  obtain ⟨X, S, h2, g2⟩ := h.store 0 0 0 (D' := { D with kd := 0, fa := 0, fm := 0 }) rfl okA rfl
  have okB := h.ok.arm ho pos kind more hm
  clear h
  unfold Dk.arm at okB ⊢
  by_cases c : pos < 1 ∨ 1099511627776 < pos ∨ (kind ≠ 1 ∧ kind ≠ 2)
  · rw [if_pos c]
    have H2 := Lib.hid h2
    have G2 := Lib.hid g2
    clear h2 g2 okA okB
    have c1 : pos < 1 ∨ (¬ pos < 1 ∧ 1099511627776 < pos) ∨ (¬ pos < 1 ∧ ¬ 1099511627776 < pos ∧ kind ≠ 1 ∧ kind ≠ 2) := by omega
    clear c
    have c1 : pos < 1 ∨ (¬ pos < 1 ∧ 1099511627776 < pos) ∨ (¬ pos < 1 ∧ ¬ 1099511627776 < pos ∧ (kind != 1) = true ∧ (kind != 2) = true) := by
      rcases c1 with c1 | c1 | ⟨c1, c2, c3, c4⟩
      · exact .inl c1
      · exact .inr (.inl c1)
      · exact .inr (.inr ⟨c1, c2, by simpa using c3, by simpa using c4⟩)
    rcases c1 with c1 | ⟨c1, c2⟩ | ⟨c1, c2, c3, c4⟩
    all_goals
      go_enter Tryz.func11, Tryz.ntmps11
      go_wp2_with (first | refine wpl_store S rfl rfl rfl rfl rfl ?_)
      exact bodyPost_ret (v := .tuple #[]) (by simp [results, Tryz.results11, go_sem]) rfl ⟨rfl, H2.out, G2.out⟩
  · rw [if_neg c] at okB ⊢
    have p1 : 1 ≤ pos ∧ pos ≤ 1099511627776 ∧ (kind = 1 ∨ kind = 2) := by omega
    clear c
    obtain ⟨p1, p2, p3⟩ := p1
    have c2 := h2.cell 2
    simp [headV] at c2
    have okC := okB
    obtain ⟨Y, T, h3, g3⟩ := h2.store kind (D.ops + pos) (max more 0) (D' := { D with kd := kind, fa := D.ops + pos, fm := max more 0 }) rfl okB rfl
    have H3 := Lib.hid h3
    have G3 := Lib.hid (g2.trans g3)
    clear h2 h3 g2 g3 okA okB okC
    have q1 : ¬ pos < 1 := by omega
    have q2 : ¬ 1099511627776 < pos := by omega
    have q3 : IntKind.i64.wrap (D.ops + pos) = D.ops + pos := IntWalk.i64_in _ (by omega)
    rcases p3 with rfl | rfl
    all_goals
      go_enter Tryz.func11, Tryz.ntmps11
      go_wp2_with (first | refine wpl_store S rfl rfl rfl rfl rfl ?_ | refine wpl_store T rfl rfl rfl rfl rfl ?_)
      exact bodyPost_end (v := .tuple #[]) (by simp [results, Tryz.results11, go_sem]) rfl ⟨rfl, H3.out, G3.out⟩
end
end Go.Proofs.YtdmgobffhpgjlaaGreat.Pk
