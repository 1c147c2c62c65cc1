/-
  Contracts of Size, Safe, Bytes, Used, Names and Arm.
  Contracts of Create, Delete, Sync, Rename.
  Contracts of Delete, Sync and Append.
  A row of bytes cut behind and ahead.
  Contracts of Rename and Read.
-/
import Derived.Test.YtdmgobffhpgjlaaGreatPkRow
import Derived.Test.YtdmgobffhpgjlaaGreatPkIter
section
namespace Go.Proofs.YtdmgobffhpgjlaaGreat.Pk
open Go.RowKit Go.PlainAid Go.Maps
set_option linter.unusedVariables false
set_option maxRecDepth 20000
set_option linter.unusedSimpArgs false

section
variable {w : World} {p m : Nat} {G : Gs} {D : Dk}
theorem FileAt.cell0 {f : Fi} {x : Nat × Value} (h : FileAt w f x) : w.cell? ⟨x.1, 0, none⟩ = some x.2 := cell_of_row _ _ _ _ _ _ h.st
theorem FileAt.cell1 {f : Fi} {x : Nat × Value} (h : FileAt w f x) : w.cell? ⟨x.1, 1, none⟩ = some (.int .i64 (f.sf : Int)) := cell_of_row _ _ _ _ _ _ h.st
theorem FileAt.frozen {f : Fi} {x : Nat × Value} (h : FileAt w f x) (j : Nat) : w.frozen? ⟨x.1, j, none⟩ = false := frozen_of_row _ _ _ _ _ h.st
set_option maxRecDepth 100000 in
set_option maxHeartbeats 1000000 in
theorem size_any (h : DiskAt w p m G D) {s : ByteArray} (hs : s.size ≤ 9223372036854775807) :
    Calls Tryz.prog 66 #[.pointer (some ⟨p, 0, none⟩), .string s] w fun e w' => e = .returned (.int .i64 (D.size (kl s))) ∧ w = w' := by
  have F := find_any h hs
  unfold Dk.size
  cases hg : getF (kl s) D.L with
  | none =>
    rw [hg] at F
    simp only [fp, Option.map_none] at F ⊢
    clear h hg
    go_enter Tryz.func66, Tryz.ntmps66
    go_wp2_with fail
    refine F.mono ?_
    rintro e w' ⟨rfl, rfl⟩
    clear F
    go_wp2
    go_ret
    exact ⟨rfl, rfl⟩
  | some f =>
    rw [hg] at F
    simp only [fp, Option.map_some] at F ⊢
    have hf := h.file f (get_some hg).1
    obtain ⟨o, cap, e1, _⟩ := hf.row.form
    have c0 := hf.cell0
    rw [e1] at c0
    clear h hg hf e1
    generalize (G f.nm).1 = g at *
    generalize f.bs.length = n at *
    go_enter Tryz.func66, Tryz.ntmps66
    go_wp2_with fail
    refine F.mono ?_
    rintro e w' ⟨rfl, rfl⟩
    clear F
    go_wp2
    go_ret
    exact ⟨rfl, rfl⟩
set_option maxRecDepth 100000 in
set_option maxHeartbeats 1000000 in
theorem safe_any (h : DiskAt w p m G D) {s : ByteArray} (hs : s.size ≤ 9223372036854775807) :
    Calls Tryz.prog 34 #[.pointer (some ⟨p, 0, none⟩), .string s] w fun e w' => e = .returned (.int .i64 (D.safe (kl s))) ∧ w = w' := by
  have F := find_any h hs
  unfold Dk.safe
  cases hg : getF (kl s) D.L with
  | none =>
    rw [hg] at F
    simp only [fp, Option.map_none] at F ⊢
    clear h hg
    go_enter Tryz.func34, Tryz.ntmps34
    go_wp2_with fail
    refine F.mono ?_
    rintro e w' ⟨rfl, rfl⟩
    clear F
    go_wp2
    go_ret
    exact ⟨rfl, rfl⟩
  | some f =>
    rw [hg] at F
    simp only [fp, Option.map_some] at F ⊢
    have hf := h.file f (get_some hg).1
    have c0 := hf.cell1
    clear h hg hf
    generalize (G f.nm).1 = g at *
    go_enter Tryz.func34, Tryz.ntmps34
    go_wp2_with fail
    refine F.mono ?_
    rintro e w' ⟨rfl, rfl⟩
    clear F
    go_wp2
    go_ret
    exact ⟨rfl, rfl⟩
set_option maxRecDepth 100000 in
set_option maxHeartbeats 1000000 in
theorem bytes_any (h : DiskAt w p m G D) {s : ByteArray} (hs : s.size ≤ 9223372036854775807) :
    Calls Tryz.prog 33 #[.pointer (some ⟨p, 0, none⟩), .string s] w fun e w' => e = .returned (.string ⟨(D.bytes (kl s)).toArray⟩) ∧ w = w' := by
  have F := find_any h hs
  unfold Dk.bytes
  cases hg : getF (kl s) D.L with
  | none =>
    rw [hg] at F
    simp only [fp, Option.map_none] at F ⊢
    clear h hg
    go_enter Tryz.func33, Tryz.ntmps33
    go_wp2_with fail
    refine F.mono ?_
    rintro e w' ⟨rfl, rfl⟩
    clear F
    go_wp2
    go_ret
    exact ⟨rfl, rfl⟩
  | some f =>
    rw [hg] at F
    simp only [fp, Option.map_some] at F ⊢
    have hf := h.file f (get_some hg).1
    obtain ⟨o, cap, e1, _⟩ := hf.row.form
    have c0 := hf.cell0
    have T := hf.row.text
    rw [e1] at c0 T
    clear h hg hf e1
    generalize (G f.nm).1 = g at *
    generalize f.bs.length = n at *
    generalize (ByteArray.mk f.bs.toArray) = t at *
    go_enter Tryz.func33, Tryz.ntmps33
    go_wp2_with fail
    refine F.mono ?_
    rintro e w' ⟨rfl, rfl⟩
    clear F
    go_wp2
    go_ret
    exact ⟨rfl, rfl⟩
end

/-! ### the sum over a map, in whatever order -/
def leftF (left : Lit → Bool) (l : List Fi) : Nat := usedF (l.filter fun f => !left (.string f.nm))
theorem leftF_start (G : Gs) (l : List Fi) : leftF (Maps.has (datum G l)) l = 0 := by
  unfold leftF
  rw [List.filter_eq_nil_iff.2]
  · rfl
  · intro f hf
    have : Maps.has (datum G l) (.string f.nm) = true := by
      unfold datum
      rw [has_eq, List.any_eq_true]
      exact ⟨ent G f, List.mem_map.2 ⟨f, hf, rfl⟩, by simp [ent, Lit.sameKey]⟩
    simp [this]
theorem leftF_end {left : Lit → Bool} (h : ∀ k, left k = false) (l : List Fi) : leftF left l = usedF l := by
  unfold leftF
  rw [List.filter_eq_self.2]
  intro f hf
  simp [h]
theorem leftF_step {left : Lit → Bool} {l : List Fi} (hu : l.Pairwise fun x y => x.nm ≠ y.nm) {f : Fi} (hf : f ∈ l) (h : left (.string f.nm) = true) : leftF (fun z => left z && !z.sameKey (.string f.nm)) l = leftF left l + f.bs.length := by
  unfold leftF
  induction l with
  | nil => simp at hf
  | cons a r ih =>
    obtain ⟨h1, h2⟩ := List.pairwise_cons.1 hu
    rcases List.mem_cons.1 hf with rfl | hf
    · have e : (r.filter fun g => !(left (.string g.nm) && !(Lit.string g.nm).sameKey (.string f.nm))) = r.filter fun g => !left (.string g.nm) := by
        refine List.filter_congr fun g hg => ?_
        have : ((Lit.string g.nm).sameKey (.string f.nm)) = false := by
          simpa [Lit.sameKey] using (h1 g hg).symm
        rw [this]
        simp
      rw [List.filter_cons, List.filter_cons, if_pos (by simp [Lit.sameKey]), if_neg (by simp [h]), e]
      simp [usedF]
      omega
    · have hne := h1 f hf
      have : ((Lit.string a.nm).sameKey (.string f.nm)) = false := by simpa [Lit.sameKey] using hne
      have ih := ih h2 hf
      rw [List.filter_cons, List.filter_cons]
      simp only [this] at ih ⊢
      by_cases c : left (.string a.nm) = true
      · rw [if_neg (by simp [c]), if_neg (by simp [c])]
        exact ih
      · rw [if_pos (by simp [c]), if_pos (by simp [c])]
        simp only [usedF, ih]
        omega
theorem leftF_le (left : Lit → Bool) (l : List Fi) : leftF left l ≤ usedF l := by
  unfold leftF
  induction l with
  | nil => simp [usedF]
  | cons a r ih =>
    rw [List.filter_cons]
    split
    · simp [usedF]; omega
    · simp [usedF]; omega
section
variable {w : World} {p m : Nat} {G : Gs} {D : Dk}
theorem wpl_next {ops : Array Oper} {rest : List Oper} {o : Oper} {a : Act} {Q : Exit → Act → World → Prop} (hgd : o.guard = none) (it : Operand) (hop : o.op = Op.next it false) {r n cnt : Nat} {l : List Fi} {left : Lit → Bool}
    (hit : a.eval it = .pointer (some ⟨r, 0, none⟩)) (h : w.ranges Tryz.prog 9 RF m r n (datum G l) left cnt)
    (hDone : (∀ k, left k = false) → wpList Tryz.prog ops Q rest (a.put o.dst (.tuple #[.bool false])) w)
    (hMore : ∀ f ∈ l, left (.string f.nm) = true → ∀ (w' : World) (cnt' : Nat), w'.ranges Tryz.prog 9 RF m r n (datum G l) (fun z => left z && !z.sameKey (.string f.nm)) cnt' → cnt' < cnt → w.grownBy w' (some r) →
      (Instr.entry (.pointer (some ⟨r, 0, none⟩))).run Tryz.prog w' = .ok (.tuple #[.string ⟨f.nm.toArray⟩, .pointer (some ⟨(G f.nm).1, 0, none⟩)]) w' → wpList Tryz.prog ops Q rest (a.put o.dst (.tuple #[.bool true, .string ⟨f.nm.toArray⟩, .pointer (some ⟨(G f.nm).1, 0, none⟩)])) w') :
    wpList Tryz.prog ops Q (o :: rest) a w := by
  refine wpList_plain hgd fun K' hK' => ?_
  unfold Oper.wp
  rcases h.next kname o.type with ⟨h0, hl, hrun⟩ | ⟨key, v, kk, y, w', cnt', hkey, hlk, hv, hat, hrun, hrg, hlt, hgr, hsz, hen⟩
  · simp [execOp, hop, hit, hrun, Result.andThen]
    exact hK' _ _ (hDone hl)
  · obtain ⟨x, rfl, rfl, _⟩ := Maps.keyOf_str Tryz.underlying9 hkey
    have e := hat .nil
    have e' := hat (.lit (.bool true))
    rw [datum_at] at e e'
    cases hgf : getF x l with
    | none =>
      rw [hgf] at e e'
      simp only at e e'
      rw [← e] at e'
      cases e'
    | some f =>
      rw [hgf] at e
      obtain ⟨hf, rfl⟩ := get_some hgf
      obtain ⟨y1, y2⟩ := y
      simp only at e
      subst e
      have ev := RF_inv hv
      subst ev
      simp [execOp, hop, hit, hrun, Result.andThen]
      exact hK' _ _ (hMore f hf hlk w' cnt' hrg hlt hgr hen)
theorem used_small (h : DiskAt w p m G D) : usedF D.L ≤ 4194304 := by
  have := h.ok.used
  have := h.ok.room1
  omega
set_option maxRecDepth 100000 in
set_option maxHeartbeats 1000000 in
theorem used_any (h : DiskAt w p m G D) :
    Calls Tryz.prog 49 #[.pointer (some ⟨p, 0, none⟩)] w fun e w' => e = .returned (.int .i64 (usedF D.L : Int)) ∧ Below w.heap.size w w' := by
  have c1 := h.hand
  have hown := h.map
  have hus := used_small h
  have hlt := in_heap h.head
  have hno := h.ok.up.ne
  have C : ∀ f ∈ D.L, ∀ w', Below w.heap.size w w' → ∃ o cap, w'.cell? ⟨(G f.nm).1, 0, none⟩ = some (.slice o f.bs.length cap) := by
    intro f hf w' hb
    obtain ⟨o, cap, e1, _⟩ := (h.file f hf).row.form
    have c0 := (h.file f hf).cell0
    rw [e1] at c0
    exact ⟨o, cap, by rw [hb.cell (in_heap (h.file f hf).st)]; exact c0⟩
  have CH := Lib.hid C
  have NO := Lib.hid hno
  clear h C hno
  go_enter Tryz.func49, Tryz.ntmps49
  go_wp2_with (first | (at_range; refine wpList_range_own _ rfl _ 70 rfl 9 86 kname Tryz.underlying70 _ m D.L.length _ rfl hown ?_; intro w0 hrg0 hg0 hs0) | go_in)
  go_frame
  go_loopw [3] (fun x wr => ∃ left cnt, wr.ranges Tryz.prog 9 RF m w.heap.size D.L.length (datum G D.L) left cnt ∧ x = .int .i64 (leftF left D.L : Nat) ∧ Below w.heap.size w wr) (fun _ wr => wr.rangeLeft m w.heap.size)
  case atStart => exact ⟨_, _, hrg0, by rw [leftF_start]; rfl, (Below.refl _ _).grown hg0 (Nat.le_refl _) (by simp)⟩
  case round =>
    obtain ⟨left, cnt, hrg, rfl, hb⟩ := hrel
    go_wp2_with (first | (at_next; refine wpl_next rfl _ rfl rfl hrg ?_ ?_))
    · intro hl0
      go_wp2
      go_ret
      exact ⟨by rw [leftF_end hl0]; rfl, hb⟩
    · intro f hf hlk w2 cnt2 hrg2 hlt2 hg2 hen
      have hb2 := hb.grown hg2 (by have := hb.size; exact this) (by simp)
      obtain ⟨o, cap, c0⟩ := CH.out f hf w2 hb2
      have st := leftF_step NO.out hf hlk
      have le := leftF_le (fun z => left z && !z.sameKey (.string f.nm)) D.L
      rw [st] at le
      go_wp2
      go_roundw
      case rel => exact ⟨_, _, hrg2, by rw [st]; go_num, hb2⟩
      case measure => rw [hrg2.left_eq, hrg.left_eq]; exact hlt2
end

/-! ### names, rising -/
theorem before_lt : ∀ {a b : Bs}, bytesBefore a b = true → a < b
  | [], [], h => by simp [bytesBefore] at h
  | [], _ :: _, _ => List.nil_lt_cons _ _
  | _ :: _, [], h => by simp [bytesBefore] at h
  | a :: r, b :: s, h => by
    simp only [bytesBefore, Bool.or_eq_true, Bool.and_eq_true, decide_eq_true_eq, beq_iff_eq] at h
    rw [List.cons_lt_cons_iff]
    rcases h with h | ⟨h, h'⟩
    · exact .inl h
    · exact .inr ⟨h, before_lt h'⟩
theorem sorted_names {l : List Fi} (h : Up l) : (l.map Fi.nm).mergeSort leB = l.map Fi.nm := by
  refine List.mergeSort_of_pairwise ?_
  rw [List.pairwise_map]
  refine h.imp fun {x y} hxy => ?_
  simp only [leB, decide_eq_true_eq]
  exact List.le_of_lt (before_lt hxy)
def nmV (f : Fi) : Value := .string ⟨f.nm.toArray⟩
/-- v is the row of the files' names, in a block that isn't below base -/
def NmAt (w : World) (base : Nat) (v : Value) (l : List Fi) : Prop := ∃ o cap, v = .slice o l.length cap ∧ ∀ j f, l[j]? = some f → ∃ g, o = some ⟨g, 0, none⟩ ∧ base ≤ g ∧ g < w.heap.size ∧ w.cell? ⟨g, j, none⟩ = some (nmV f)
theorem strKeys_datum (G : Gs) (l : List Fi) : strKeys (datum G l) = l.map Fi.nm := by
  show (l.map (ent G)).map (fun p => strOf p.1) = _
  rw [List.map_map]
  rfl
section
variable {w : World} {p m : Nat} {G : Gs} {D : Dk}
set_option maxRecDepth 100000 in
set_option maxHeartbeats 1000000 in
theorem list_any (h : DiskAt w p m G D) :
    Calls Tryz.prog 31 #[.pointer (some ⟨p, 0, none⟩)] w fun e w' => ∃ v, e = .returned v ∧ NmAt w' w.heap.size v D.L ∧ Below w.heap.size w w' := by
  have c1 := h.hand
  have cn := h.ok.cnt
  have hsz : Maps.size (datum G D.L) ≤ 200 := by rw [datum_size]; exact cn
  have K := callsIn_wide.1 (keys_call (some m) w)
  have S := callsIn_wide.1 (sorted_call m D.L.length (datum G D.L) RF w h.map (by unfold maxLen; omega) (by omega))
  have U := h.ok.up
  clear h
  go_enter Tryz.func31, Tryz.ntmps31
  go_wp2_with fail
  refine K.mono ?_
  rintro e w' ⟨rfl, rfl⟩
  go_wp2_with fail
  refine S.mono ?_
  rintro e w' ⟨v, ss, rfl, hS, hrow, hnil, hb⟩
  clear K S
  go_wp2
  go_ret
  refine ⟨v, rfl, ?_, ((Below.refl _ w).alloc (Nat.le_refl _) _).trans (hb.mono (by simp))⟩
  have e1 : ss.mergeSort leB = D.L.map Fi.nm := by
    rw [mergeSort_of_perm hS, strKeys_datum, sorted_names U]
  have e2 : ss.length = D.L.length := by
    rw [hS.length_eq, strKeys_datum]; simp
  have hrow' : w'.ownsRow (w.alloc (.cells #[.map (some m)] 70)).heap.size 9 1 v ss.length ((ss.mergeSort leB).map encStr) := hrow
  rw [e1, e2] at hrow'
  rcases hrow'.2 with ⟨rfl, h0⟩ | ⟨g, cap, cur, rfl, hbg, hg, _⟩
  · have : D.L = [] := List.eq_nil_of_length_eq_zero h0
    rw [this]
    exact ⟨none, 0, rfl, by simp⟩
  · refine ⟨some ⟨g, 0, none⟩, cap, rfl, fun j f hj => ⟨g, rfl, ?_, in_heap hg, ?_⟩⟩
    · simp at hbg
      omega
    · have := hrow'.cells (g := g) rfl j (nmV f) (by simp [hj, nmV])
      rw [add_addr, Nat.zero_add] at this
      exact this
set_option maxRecDepth 100000 in
set_option maxHeartbeats 1000000 in
theorem arm_any (h : DiskAt w p m G D) (ho : D.ops ≤ 1099511627776) (pos kind more : Int) (hm : more ≤ 9223372036854775807) :
    Calls Tryz.prog 11 #[.pointer (some ⟨p, 0, none⟩), .int .i64 pos, .int .i64 kind, .int .i64 more] w fun e w' => e = .returned (.tuple #[]) ∧ DiskAt w' p m G (D.arm pos kind more) ∧ Goes w w' (zone p m G D.L) (zone p m G D.L) := by
  have o0 := h.ok.ops0
  have okA : { D with kd := 0, fa := 0, fm := 0 }.Ok := ⟨h.ok.room0, h.ok.room1, h.ok.ops0, .inl rfl, by simp, by simp, by simp, by simp, h.ok.up, h.ok.names, h.ok.safe, h.ok.used, h.ok.cnt⟩
  obtain ⟨X, S, h2, g2⟩ := h.store 0 0 0 (D' := { D with kd := 0, fa := 0, fm := 0 }) rfl okA rfl
  have okB := h.ok.arm ho pos kind more hm
  clear h
  unfold Dk.arm at okB ⊢
  by_cases c : pos < 1 ∨ 1099511627776 < pos ∨ (kind ≠ 1 ∧ kind ≠ 2)
  · rw [if_pos c]
    have H2 := Lib.hid h2
    have G2 := Lib.hid g2
    clear h2 g2 okA okB
    have c1 : pos < 1 ∨ (¬ pos < 1 ∧ 1099511627776 < pos) ∨ (¬ pos < 1 ∧ ¬ 1099511627776 < pos ∧ kind ≠ 1 ∧ kind ≠ 2) := by omega
    clear c
    have c1 : pos < 1 ∨ (¬ pos < 1 ∧ 1099511627776 < pos) ∨ (¬ pos < 1 ∧ ¬ 1099511627776 < pos ∧ (kind != 1) = true ∧ (kind != 2) = true) := by
      rcases c1 with c1 | c1 | ⟨c1, c2, c3, c4⟩
      · exact .inl c1
      · exact .inr (.inl c1)
      · exact .inr (.inr ⟨c1, c2, by simpa using c3, by simpa using c4⟩)
    rcases c1 with c1 | ⟨c1, c2⟩ | ⟨c1, c2, c3, c4⟩
    all_goals
      go_enter Tryz.func11, Tryz.ntmps11
      go_wp2_with (first | refine wpl_store S rfl rfl rfl rfl rfl ?_)
      exact bodyPost_ret (v := .tuple #[]) (by simp [results, Tryz.results11, go_sem]) rfl ⟨rfl, H2.out, G2.out⟩
  · rw [if_neg c] at okB ⊢
    have p1 : 1 ≤ pos ∧ pos ≤ 1099511627776 ∧ (kind = 1 ∨ kind = 2) := by omega
    clear c
    obtain ⟨p1, p2, p3⟩ := p1
    have c2 := h2.cell 2
    simp [headV] at c2
    have okC := okB
    obtain ⟨Y, T, h3, g3⟩ := h2.store kind (D.ops + pos) (max more 0) (D' := { D with kd := kind, fa := D.ops + pos, fm := max more 0 }) rfl okB rfl
    have H3 := Lib.hid h3
    have G3 := Lib.hid (g2.trans g3)
    clear h2 h3 g2 g3 okA okB okC
    have q1 : ¬ pos < 1 := by omega
    have q2 : ¬ 1099511627776 < pos := by omega
    have q3 : IntKind.i64.wrap (D.ops + pos) = D.ops + pos := IntWalk.i64_in _ (by omega)
    rcases p3 with rfl | rfl
    all_goals
      go_enter Tryz.func11, Tryz.ntmps11
      go_wp2_with (first | refine wpl_store S rfl rfl rfl rfl rfl ?_ | refine wpl_store T rfl rfl rfl rfl rfl ?_)
      exact bodyPost_end (v := .tuple #[]) (by simp [results, Tryz.results11, go_sem]) rfl ⟨rfl, H3.out, G3.out⟩
end
end Go.Proofs.YtdmgobffhpgjlaaGreat.Pk
end

section
namespace Go.Proofs.YtdmgobffhpgjlaaGreat.Pk
open Go.RowKit Go.PlainAid Go.Maps
set_option linter.unusedVariables false
set_option maxRecDepth 20000
set_option linter.unusedSimpArgs false

/-- behind a call: the disk is D', and nothing but its own blocks has turned -/
def Post (w w' : World) (p m : Nat) (G : Gs) (D D' : Dk) : Prop := ∃ G', DiskAt w' p m G' D' ∧ Goes w w' (zone p m G D.L) (zone p m G' D'.L)
section
variable {w w' : World} {p m : Nat} {G : Gs} {D : Dk}
theorem DiskAt.putNew (h : DiskAt w p m G D) {f : Fi} {v : Value} {n : Nat} (row : RowB w v f.bs) (hv : ∀ b, v.ownBlock = some b → ¬ zone p m G D.L b) (ok : { D with L := insF f (delF f.nm D.L) }.Ok)
    (hm : w'.ownsMap Tryz.prog 9 RF m n ((datum G D.L).put (.string f.nm) (.lit (.int .i64 (w.heap.size : Int))))) (hg : (w.alloc (.cells #[v, .int .i64 (f.sf : Int)] 89)).grownBy w' (some m)) :
    DiskAt w' p m (setG G f.nm (w.heap.size, v)) { D with L := insF f (delF f.nm D.L) } ∧ (∀ b, zone p m (setG G f.nm (w.heap.size, v)) (insF f (delF f.nm D.L)) b → zone p m G D.L b ∨ v.ownBlock = some b ∨ w.heap.size ≤ b) ∧
      (∀ b, b < w.heap.size → b ≠ m → w'.heap[b]? = w.heap[b]?) ∧ w.heap.size ≤ w'.heap.size ∧ w'.os = w.os ∧ w'.tape = w.tape ∧ w'.output = w.output := by
  have hb : ∀ b, b < w.heap.size → b ≠ m → w'.heap[b]? = w.heap[b]? := fun b hb hne => (hg.block b (by simp; omega) (fun e => hne (Option.some.inj e))).trans (Below.heap_alloc _ _ _ hb)
  have hml := h.map.lt
  have hnew : w'.heap[w.heap.size]? = some (.cells #[v, .int .i64 (f.sf : Int)] 89 (0, 0)) := (hg.block _ (by simp) (fun e => by have := Option.some.inj e; omega)).trans (heap_alloc_new w _)
  have hvm : ∀ b, v.ownBlock = some b → b < w.heap.size := fun b hb => by
    obtain ⟨cur, fr, hc⟩ := row_block row hb
    exact in_heap hc
  have hz : ∀ b, zone p m G (delF f.nm D.L) b → zone p m G D.L b := zone_del f.nm
  refine ⟨h.put hm ok ⟨hnew, row_same row fun b hb' => hb b (hvm b hb') fun e => hv b hb' (.inr (.inl e))⟩ (fun b hb' hne => hb b (h.lt (hz b hb')) hne) ?_ ?_, ?_, hb, ?_, hg.os, hg.tape, hg.output⟩
  · intro x hx e
    have := h.lt (.inr (.inr ⟨x, (mem_del.1 hx).1, .inl rfl⟩))
    omega
  · intro b hb' x hx e
    exact hv b hb' (.inr (.inr ⟨x, (mem_del.1 hx).1, .inr e⟩))
  · intro b hb'
    rcases zone_put b hb' with c | c | c
    · exact .inl c
    · exact .inr (.inr (Nat.le_of_eq c.symm))
    · exact .inr (.inl c)
  · have := hg.size
    simp at this
    omega
theorem RowB.nil (w : World) : RowB w (.slice none 0 0) [] := .inl ⟨rfl, rfl⟩
theorem create_r {nm : Bs} (hr : (D.beg (isName nm)).1 ≠ 0) : D.create nm = D.beg (isName nm) := by
  unfold Dk.create
  simp only
  rw [if_pos hr]
theorem create_t {nm : Bs} (hr : (D.beg (isName nm)).1 = 0) {f : Fi} (hg : getF nm (D.beg (isName nm)).2.L = some f) : D.create nm = (9, (D.beg (isName nm)).2) := by
  unfold Dk.create
  simp only
  rw [if_neg (by simpa using hr), hg]
  rfl
theorem create_f {nm : Bs} (hr : (D.beg (isName nm)).1 = 0) (hg : getF nm (D.beg (isName nm)).2.L = none) (hn : 200 ≤ (D.beg (isName nm)).2.L.length) : D.create nm = (6, (D.beg (isName nm)).2) := by
  unfold Dk.create
  simp only
  rw [if_neg (by simpa using hr), hg, if_neg (by simp), if_pos hn]
theorem create_o {nm : Bs} (hr : (D.beg (isName nm)).1 = 0) (hg : getF nm (D.beg (isName nm)).2.L = none) (hn : ¬ 200 ≤ (D.beg (isName nm)).2.L.length) : D.create nm = (0, { (D.beg (isName nm)).2 with L := insF ⟨nm, [], 0⟩ (D.beg (isName nm)).2.L }) := by
  unfold Dk.create
  simp only
  rw [if_neg (by simpa using hr), hg, if_neg (by simp), if_neg hn]
theorem beg_good {g : Bool} (h : (D.beg g).1 = 0) : g = true := by
  unfold Dk.beg at h
  cases g
  · simp at h
  · rfl
set_option maxRecDepth 100000 in
set_option maxHeartbeats 2000000 in
theorem create_any (h : DiskAt w p m G D) (ho : D.ops ≤ 1099511627776) {s : ByteArray} (hs : s.size ≤ 9223372036854775807) :
    Calls Tryz.prog 64 #[.pointer (some ⟨p, 0, none⟩), .string s] w fun e w' => e = .returned (.int .i64 (D.create (kl s)).1) ∧ Post w w' p m G D (D.create (kl s)).2 := by
  have N1 := name_one w hs
  have B := begin_any (h.alloc (.cells #[.string s] 9)) ho (isName (kl s))
  have g0 := Goes.alloc w (.cells #[.string s] 9) (zone p m G D.L)
  have HL := Lib.hid (beg_L D (isName (kl s))).1
  clear h
  by_cases hr : (D.beg (isName (kl s))).1 ≠ 0
  · rw [create_r hr]
    generalize (D.beg (isName (kl s))) = r at *
    obtain ⟨r1, r2⟩ := r
    simp only at hr B HL ⊢
    generalize isName (kl s) = good at *
    go_enter Tryz.func64, Tryz.ntmps64
    go_wp2_with fail
    refine N1.mono ?_
    rintro e w' ⟨rfl, rfl⟩
    go_wp2_with fail
    refine B.mono ?_
    rintro e w2 ⟨rfl, h2, g2⟩
    clear N1 B
    go_wp2
    go_ret
    exact ⟨rfl, G, h2, by rw [HL.out]; exact g0.trans g2⟩
  · have hr : (D.beg (isName (kl s))).1 = 0 := by simpa using hr
    have hgd := beg_good hr
    rw [hr] at B
    cases hg : getF (kl s) (D.beg (isName (kl s))).2.L with
    | some f =>
      rw [create_t hr hg]
      generalize (D.beg (isName (kl s))).2 = r at *
      generalize isName (kl s) = good at *
      clear hr hgd
      have LK := Lib.hid fun w' (h' : DiskAt w' p m G r) => h'.look hs
      rw [hg] at LK
      simp only [fp, Option.map_some] at LK
      generalize (G f.nm).1 = gb at *
      go_enter Tryz.func64, Tryz.ntmps64
      go_wp2_with fail
      refine N1.mono ?_
      rintro e w' ⟨rfl, rfl⟩
      go_wp2_with fail
      refine B.mono ?_
      rintro e w2 ⟨rfl, h2, g2⟩
      clear N1 B
      have c1 := h2.hand
      have l1 := LK.out w2 h2
      have H2 := Lib.hid h2
      have G2 := Lib.hid (g0.trans g2)
      clear h2 g2 g0 LK
      go_wp2
      go_ret
      exact ⟨rfl, G, H2.out, by rw [HL.out]; exact G2.out⟩
    | none =>
      have LK := Lib.hid fun w' (h' : DiskAt w' p m G (D.beg (isName (kl s))).2) => h'.look hs
      rw [hg] at LK
      simp only [fp, Option.map_none] at LK
      have LN := Lib.hid fun w' (h' : DiskAt w' p m G (D.beg (isName (kl s))).2) ty => h'.map.len Tryz.underlying70 ty
      simp only [datum_size] at LN
      by_cases hn : 200 ≤ (D.beg (isName (kl s))).2.L.length
      · rw [create_f hr hg hn]
        generalize (D.beg (isName (kl s))).2 = r at *
        generalize isName (kl s) = good at *
        clear hr hgd
        have n1 : (200 : Int) ≤ (r.L.length : Int) := by omega
        go_enter Tryz.func64, Tryz.ntmps64
        go_wp2_with fail
        refine N1.mono ?_
        rintro e w' ⟨rfl, rfl⟩
        go_wp2_with fail
        refine B.mono ?_
        rintro e w2 ⟨rfl, h2, g2⟩
        clear N1 B
        have c1 := h2.hand
        have l1 := LK.out w2 h2
        have l2 := LN.out w2 h2
        have H2 := Lib.hid h2
        have G2 := Lib.hid (g0.trans g2)
        clear h2 g2 g0 LK LN
        go_wp2
        go_ret
        exact ⟨rfl, G, H2.out, by rw [HL.out]; exact G2.out⟩
      · rw [create_o hr hg hn]
        generalize (D.beg (isName (kl s))).2 = r at *
        have n1 : ¬ (200 : Int) ≤ (r.L.length : Int) := by omega
        have dn := del_none (get_none hg)
        have FIN : ∀ w2, DiskAt w2 p m G r → ∀ w3 n, w3.ownsMap Tryz.prog 9 RF m n ((datum G r.L).put (.string (kl s)) (.lit (.int .i64 (w2.heap.size : Int)))) → (w2.alloc (.cells #[.slice none 0 0, .int .i64 0] 89)).grownBy w3 (some m) → Goes w w2 (zone p m G D.L) (zone p m G D.L) →
            Post w w3 p m G D { r with L := insF ⟨kl s, [], 0⟩ r.L } := by
          intro w2 h2 w3 n hm hgr g2
          have ok : { r with L := insF ⟨kl s, [], 0⟩ (delF (kl s) r.L) }.Ok := by
            rw [dn]
            exact h2.ok.ins (by simpa using hgd) (by simp) (get_none hg) (by simpa using h2.ok.used) (by omega)
          obtain ⟨k1, k2, k3, k4, k5, k6, k7⟩ := h2.putNew (f := ⟨kl s, [], 0⟩) (v := .slice none 0 0) (RowB.nil w2) (by simp [Value.ownBlock]) ok hm hgr
          refine ⟨_, by rw [dn] at k1; exact k1, ?_⟩
          refine g2.trans ⟨k5, k6, k7, k4, fun b hb hz => k3 b hb fun e => hz (.inr (.inl e)), fun b hb => ?_⟩
          rw [dn] at k2
          rcases k2 b hb with c | c | c
          · exact .inl (by rw [← HL.out]; exact c)
          · simp [Value.ownBlock] at c
          · exact .inr c
        have FH := Lib.hid FIN
        clear FIN dn hg hgd hr hn
        generalize isName (kl s) = good at *
        have hkey := keyN hs
        go_enter Tryz.func64, Tryz.ntmps64
        go_wp2_with fail
        refine N1.mono ?_
        rintro e w' ⟨rfl, rfl⟩
        go_wp2_with fail
        refine B.mono ?_
        rintro e w2 ⟨rfl, h2, g2⟩
        clear N1 B
        have c1 := h2.hand
        have l1 := LK.out w2 h2
        have l2 := LN.out w2 h2
        have hown := h2.map
        have F2 := Lib.hid (FH.out w2 h2)
        have G2 := Lib.hid (g0.trans g2)
        clear h2 g2 g0 LK LN FH
        have oc : (w2.alloc (.cells #[.slice none 0 0, .int .i64 0] 89)).ownsMap Tryz.prog 9 RF m r.L.length (datum G r.L) := hown.alloc _
        clear hown
        go_wp2_with (first | (at_mapUpdate; refine wpList_mapUpdate_own _ rfl _ _ _ 70 rfl 9 86 kname Tryz.underlying70 _ m r.L.length _ rfl oc (by unfold maxLen; omega) _ _ _ rfl rfl hkey _ [] (RF_ptr _) ?_; intro w3 ho3 hg3))
        go_ret
        exact ⟨rfl, F2.out w3 _ ho3 hg3 G2.out⟩
end
end Go.Proofs.YtdmgobffhpgjlaaGreat.Pk
end

section
namespace Go.Proofs.YtdmgobffhpgjlaaGreat.Pk
open Go.RowKit Go.PlainAid Go.Maps
set_option linter.unusedVariables false
set_option maxRecDepth 20000
set_option linter.unusedSimpArgs false

section
variable {w w' : World} {p m : Nat} {G : Gs} {D : Dk}
theorem delete_r {nm : Bs} (hr : (D.beg (isName nm)).1 ≠ 0) : D.delete nm = D.beg (isName nm) := by
  unfold Dk.delete
  simp only
  rw [if_pos hr]
theorem delete_n {nm : Bs} (hr : (D.beg (isName nm)).1 = 0) (hg : getF nm (D.beg (isName nm)).2.L = none) : D.delete nm = (7, (D.beg (isName nm)).2) := by
  unfold Dk.delete
  simp only
  rw [if_neg (by simpa using hr), hg]
theorem delete_s {nm : Bs} (hr : (D.beg (isName nm)).1 = 0) {f : Fi} (hg : getF nm (D.beg (isName nm)).2.L = some f) : D.delete nm = (0, { (D.beg (isName nm)).2 with L := delF nm (D.beg (isName nm)).2.L }) := by
  unfold Dk.delete
  simp only
  rw [if_neg (by simpa using hr), hg]
set_option maxRecDepth 100000 in
set_option maxHeartbeats 2000000 in
theorem delete_any (h : DiskAt w p m G D) (ho : D.ops ≤ 1099511627776) {s : ByteArray} (hs : s.size ≤ 9223372036854775807) :
    Calls Tryz.prog 89 #[.pointer (some ⟨p, 0, none⟩), .string s] w fun e w' => e = .returned (.int .i64 (D.delete (kl s)).1) ∧ Post w w' p m G D (D.delete (kl s)).2 := by
  have N1 := name_one w hs
  have hA := h.alloc (.cells #[.string s] 9)
  have g0 := Goes.alloc w (.cells #[.string s] 9) (zone p m G D.L)
  have HL := Lib.hid (beg_L D (isName (kl s))).1
  clear h
  by_cases hr : (D.beg (isName (kl s))).1 ≠ 0
  · rw [delete_r hr]
    have B := reach_no hA ho hs (isName (kl s)) hr
    clear hA
    generalize D.beg (isName (kl s)) = r at *
    obtain ⟨r1, r2⟩ := r
    simp only at hr B HL ⊢
    generalize isName (kl s) = good at *
    go_enter Tryz.func89, Tryz.ntmps89
    go_wp2_with fail
    refine N1.mono ?_
    rintro e w' ⟨rfl, rfl⟩
    go_wp2_with fail
    refine B.mono ?_
    rintro e w2 ⟨rfl, h2, g2⟩
    clear N1 B
    go_wp2
    go_ret
    exact ⟨rfl, G, h2, by rw [HL.out]; exact g0.trans g2⟩
  have hr : (D.beg (isName (kl s))).1 = 0 := by simpa using hr
  have hgd := beg_good hr
  cases hg : getF (kl s) (D.beg (isName (kl s))).2.L with
  | none =>
    rw [delete_n hr hg]
    have B := reach_none hA ho hs (isName (kl s)) hr hg
    clear hA hgd hr hg
    generalize (D.beg (isName (kl s))).2 = r at *
    generalize isName (kl s) = good at *
    go_enter Tryz.func89, Tryz.ntmps89
    go_wp2_with fail
    refine N1.mono ?_
    rintro e w' ⟨rfl, rfl⟩
    go_wp2_with fail
    refine B.mono ?_
    rintro e w2 ⟨rfl, h2, g2⟩
    clear N1 B
    go_wp2
    go_ret
    exact ⟨rfl, G, h2, by rw [HL.out]; exact g0.trans g2⟩
  | some f =>
    have B := reach_some hA ho hs (isName (kl s)) hr hg
    clear hA
    obtain ⟨hf, hn⟩ := get_some hg
    rw [delete_s hr hg]
    clear hgd hr hg
    generalize (D.beg (isName (kl s))).2 = r at *
    generalize (G f.nm).1 = gb at *
    have FIN : ∀ w2, DiskAt w2 p m G r → ∀ w3, w3.ownsMap Tryz.prog 9 RF m r.L.length ((datum G r.L).del (.string (kl s))) → w2.mapTurned w3 m → Goes w w2 (zone p m G D.L) (zone p m G D.L) → Post w w3 p m G D { r with L := delF (kl s) r.L } := by
      intro w2 h2 w3 hm ht g2
      have hg := ht.grown
      refine ⟨G, h2.del (kl s) hm fun b hb hne => hg.block b hb fun e => hne (Option.some.inj e), g2.trans ⟨hg.os, hg.tape, hg.output, hg.size, fun b hb hz => hg.block b hb fun e => hz (.inr (.inl (Option.some.inj e))), fun b hb => .inl ?_⟩⟩
      have := zone_del (kl s) b hb
      rw [HL.out] at this
      exact this
    have FH := Lib.hid FIN
    have hkey := keyN hs
    clear FIN hf hn
    generalize isName (kl s) = good at *
    go_enter Tryz.func89, Tryz.ntmps89
    go_wp2_with fail
    refine N1.mono ?_
    rintro e w' ⟨rfl, rfl⟩
    go_wp2_with fail
    refine B.mono ?_
    rintro e w2 ⟨rfl, h2, g2⟩
    clear N1 B
    have c1 := h2.hand
    have hown := h2.map
    have F2 := Lib.hid (FH.out w2 h2)
    have G2 := Lib.hid (g0.trans g2)
    clear h2 g2 g0 FH
    go_wp2_with (first | (at_delete; refine wpList_delete_own _ rfl _ _ 70 9 rfl 86 kname Tryz.underlying70 _ m _ _ rfl hown _ _ rfl hkey ?_; intro w3 ho3 ht3))
    go_ret
    exact ⟨rfl, F2.out w3 ho3 ht3 G2.out⟩
theorem sync_r {nm : Bs} (hr : (D.beg (isName nm)).1 ≠ 0) : D.sync nm = D.beg (isName nm) := by
  unfold Dk.sync
  simp only
  rw [if_pos hr]
theorem sync_n {nm : Bs} (hr : (D.beg (isName nm)).1 = 0) (hg : getF nm (D.beg (isName nm)).2.L = none) : D.sync nm = (7, (D.beg (isName nm)).2) := by
  unfold Dk.sync
  simp only
  rw [if_neg (by simpa using hr), hg]
theorem sync_s {nm : Bs} (hr : (D.beg (isName nm)).1 = 0) {f : Fi} (hg : getF nm (D.beg (isName nm)).2.L = some f) : D.sync nm = (0, { (D.beg (isName nm)).2 with L := updF nm ⟨nm, f.bs, f.bs.length⟩ (D.beg (isName nm)).2.L }) := by
  unfold Dk.sync
  simp only
  rw [if_neg (by simpa using hr), hg]
set_option maxRecDepth 100000 in
set_option maxHeartbeats 2000000 in
theorem sync_any (h : DiskAt w p m G D) (ho : D.ops ≤ 1099511627776) {s : ByteArray} (hs : s.size ≤ 9223372036854775807) :
    Calls Tryz.prog 56 #[.pointer (some ⟨p, 0, none⟩), .string s] w fun e w' => e = .returned (.int .i64 (D.sync (kl s)).1) ∧ Post w w' p m G D (D.sync (kl s)).2 := by
  have N1 := name_one w hs
  have hA := h.alloc (.cells #[.string s] 9)
  have g0 := Goes.alloc w (.cells #[.string s] 9) (zone p m G D.L)
  have HL := Lib.hid (beg_L D (isName (kl s))).1
  clear h
  by_cases hr : (D.beg (isName (kl s))).1 ≠ 0
  · rw [sync_r hr]
    have B := reach_no hA ho hs (isName (kl s)) hr
    clear hA
    generalize D.beg (isName (kl s)) = r at *
    obtain ⟨r1, r2⟩ := r
    simp only at hr B HL ⊢
    generalize isName (kl s) = good at *
    go_enter Tryz.func56, Tryz.ntmps56
    go_wp2_with fail
    refine N1.mono ?_
    rintro e w' ⟨rfl, rfl⟩
    go_wp2_with fail
    refine B.mono ?_
    rintro e w2 ⟨rfl, h2, g2⟩
    clear N1 B
    go_wp2
    go_ret
    exact ⟨rfl, G, h2, by rw [HL.out]; exact g0.trans g2⟩
  have hr : (D.beg (isName (kl s))).1 = 0 := by simpa using hr
  have hgd := beg_good hr
  cases hg : getF (kl s) (D.beg (isName (kl s))).2.L with
  | none =>
    rw [sync_n hr hg]
    have B := reach_none hA ho hs (isName (kl s)) hr hg
    clear hA hgd hr hg
    generalize (D.beg (isName (kl s))).2 = r at *
    generalize isName (kl s) = good at *
    go_enter Tryz.func56, Tryz.ntmps56
    go_wp2_with fail
    refine N1.mono ?_
    rintro e w' ⟨rfl, rfl⟩
    go_wp2_with fail
    refine B.mono ?_
    rintro e w2 ⟨rfl, h2, g2⟩
    clear N1 B
    go_wp2
    go_ret
    exact ⟨rfl, G, h2, by rw [HL.out]; exact g0.trans g2⟩
  | some f =>
    have B := reach_some hA ho hs (isName (kl s)) hr hg
    clear hA
    obtain ⟨hf, hn⟩ := get_some hg
    rw [sync_s hr hg]
    clear hgd hr hg
    generalize (D.beg (isName (kl s))).2 = r at *
    have FIN : ∀ w2, DiskAt w2 p m G r → Goes w w2 (zone p m G D.L) (zone p m G D.L) → Post w (w2.setCell ⟨(G f.nm).1, 1, none⟩ (.int .i64 (f.bs.length : Int))) p m G D { r with L := updF (kl s) ⟨kl s, f.bs, f.bs.length⟩ r.L } := by
      intro w2 h2 g2
      have hF := h2.file f hf
      rw [← hn]
      have k := h2.setFile (w' := w2.setCell ⟨(G f.nm).1, 1, none⟩ (.int .i64 (f.bs.length : Int))) hf (g := ⟨f.nm, f.bs, f.bs.length⟩) (v := (G f.nm).2) rfl (h2.ok.upd hf rfl (Nat.le_refl _) (by have := h2.ok.used; simp; omega))
        ⟨heap_set _ _ _ _ _ _ _ hF.st, row_same hF.row fun b hb => Below.heap_setCell _ _ _ _ fun e => h2.gr hf hf hb e.symm⟩ (fun b _ hb _ => Below.heap_setCell _ _ _ _ hb) (fun b hb => .inl hb)
      have z := zone_setFile h2 hf (g := ⟨f.nm, f.bs, f.bs.length⟩) (v := (G f.nm).2) rfl (fun b hb => .inl hb)
      refine ⟨_, k, g2.trans ⟨rfl, rfl, rfl, by simp, fun b hb hz => Below.heap_setCell _ _ _ _ fun e => hz (.inr (.inr ⟨f, by rw [← HL.out]; exact hf, .inl e⟩)), fun b hb => ?_⟩⟩
      have := z b hb
      rw [HL.out] at this
      exact this
    have FH := Lib.hid FIN
    have CE : ∀ w2, DiskAt w2 p m G r → ∃ o cap, w2.cell? ⟨(G f.nm).1, 0, none⟩ = some (.slice o f.bs.length cap) ∧ w2.cell? ⟨(G f.nm).1, 1, none⟩ = some (.int .i64 (f.sf : Int)) ∧ w2.frozen? ⟨(G f.nm).1, 1, none⟩ = false := by
      intro w2 h2
      have hF := h2.file f hf
      obtain ⟨o, cap, e1, _⟩ := hF.row.form
      have c0 := hF.cell0
      rw [e1] at c0
      exact ⟨o, cap, c0, hF.cell1, hF.frozen 1⟩
    have CH := Lib.hid CE
    clear FIN CE hf hn
    generalize (G f.nm).1 = gb at *
    generalize f.bs.length = n at *
    generalize isName (kl s) = good at *
    go_enter Tryz.func56, Tryz.ntmps56
    go_wp2_with fail
    refine N1.mono ?_
    rintro e w' ⟨rfl, rfl⟩
    go_wp2_with fail
    refine B.mono ?_
    rintro e w2 ⟨rfl, h2, g2⟩
    clear N1 B
    obtain ⟨o, cap, c0, c1, f1⟩ := CH.out w2 h2
    have F2 := Lib.hid (FH.out w2 h2 (g0.trans g2))
    clear h2 g2 g0 FH CH
    go_wp2
    go_ret
    exact ⟨rfl, F2.out⟩
theorem append_r {nm a : Bs} (hr : (D.beg (isName nm)).1 ≠ 0) : D.append nm a = D.beg (isName nm) := by
  unfold Dk.append
  simp only
  rw [if_pos hr]
theorem append_n {nm a : Bs} (hr : (D.beg (isName nm)).1 = 0) (hg : getF nm (D.beg (isName nm)).2.L = none) : D.append nm a = (7, (D.beg (isName nm)).2) := by
  unfold Dk.append
  simp only
  rw [if_neg (by simpa using hr), hg]
theorem append_f {nm a : Bs} (hr : (D.beg (isName nm)).1 = 0) {f : Fi} (hg : getF nm (D.beg (isName nm)).2.L = some f) (hc : (D.beg (isName nm)).2.room < (usedF (D.beg (isName nm)).2.L : Int) + (a.length : Int)) : D.append nm a = (6, (D.beg (isName nm)).2) := by
  unfold Dk.append
  simp only
  rw [if_neg (by simpa using hr), hg]
  simp only
  rw [if_pos hc]
theorem append_o {nm a : Bs} (hr : (D.beg (isName nm)).1 = 0) {f : Fi} (hg : getF nm (D.beg (isName nm)).2.L = some f) (hc : ¬ (D.beg (isName nm)).2.room < (usedF (D.beg (isName nm)).2.L : Int) + (a.length : Int)) : D.append nm a = (0, { (D.beg (isName nm)).2 with L := updF nm ⟨nm, f.bs ++ a, f.sf⟩ (D.beg (isName nm)).2.L }) := by
  unfold Dk.append
  simp only
  rw [if_neg (by simpa using hr), hg]
  simp only
  rw [if_neg hc]
theorem wpl_append {ops : Array Oper} {rest : List Oper} {o : Oper} {a : Act} {Q : Exit → Act → World → Prop} {v : Value} {bs : Bs} (h : RowB w v bs) {s : ByteArray} (hb : bs.length + s.size ≤ 1099511627776) (hgd : o.guard = none) (sl x : Operand)
    (hop : o.op = .call { callee := .builtin .append, args := #[sl, x], argTypes := #[87, 9] }) (hs : a.eval sl = v) (hx : a.eval x = .string s)
    (hK : ∀ o' cap' w', RowB w' (.slice o' (bs.length + s.size) cap') (bs ++ kl s) → w.grownBy w' v.ownBlock → (∀ b, Value.ownBlock (.slice o' (bs.length + s.size) cap') = some b → v.ownBlock = some b ∨ w.heap.size ≤ b) → wpList Tryz.prog ops Q rest (a.put o.dst (.slice o' (bs.length + s.size) cap')) w') :
    wpList Tryz.prog ops Q (o :: rest) a w := by
  refine wpList_plain hgd fun K hK' => ?_
  obtain ⟨v', w', hr, h2, h3, h4⟩ := h.append s hb o.type
  obtain ⟨o', cap', rfl, _⟩ := h2.form
  rw [List.length_append, kl_len] at hr h2 h4
  unfold Oper.wp execOp
  simp only [hop, resolve, invoke, builtin, Sem.run_bind, Sem.run_pure, Result.andThen_ok, List.map_toArray, List.map_cons, List.map_nil, hs, hx, hr]
  refine hK' _ _ (hK o' cap' w' h2 h3 fun b hb => ?_)
  rcases h4 with e | e
  · exact .inl (by rw [← e]; exact hb)
  · rw [e] at hb
    exact .inr (Nat.le_of_eq (Option.some.inj hb))
set_option maxRecDepth 100000 in
set_option maxHeartbeats 2000000 in
theorem append_any (h : DiskAt w p m G D) (ho : D.ops ≤ 1099511627776) {s t : ByteArray} (hs : s.size ≤ 9223372036854775807) (ht : t.size ≤ 1099511627) :
    Calls Tryz.prog 19 #[.pointer (some ⟨p, 0, none⟩), .string s, .string t] w fun e w' => e = .returned (.int .i64 (D.append (kl s) (kl t)).1) ∧ Post w w' p m G D (D.append (kl s) (kl t)).2 := by
  have N1 := name_one w hs
  have hA := h.alloc (.cells #[.string s] 9)
  have g0 := Goes.alloc w (.cells #[.string s] 9) (zone p m G D.L)
  have HL := Lib.hid (beg_L D (isName (kl s))).1
  clear h
  by_cases hr : (D.beg (isName (kl s))).1 ≠ 0
  · rw [append_r hr]
    have B := reach_no hA ho hs (isName (kl s)) hr
    clear hA
    generalize D.beg (isName (kl s)) = r at *
    obtain ⟨r1, r2⟩ := r
    simp only at hr B HL ⊢
    generalize isName (kl s) = good at *
    go_enter Tryz.func19, Tryz.ntmps19
    go_wp2_with fail
    refine N1.mono ?_
    rintro e w' ⟨rfl, rfl⟩
    go_wp2_with fail
    refine B.mono ?_
    rintro e w2 ⟨rfl, h2, g2⟩
    clear N1 B
    go_wp2
    go_ret
    exact ⟨rfl, G, h2, by rw [HL.out]; exact g0.trans g2⟩
  have hr : (D.beg (isName (kl s))).1 = 0 := by simpa using hr
  have hgd := beg_good hr
  cases hg : getF (kl s) (D.beg (isName (kl s))).2.L with
  | none =>
    rw [append_n hr hg]
    have B := reach_none hA ho hs (isName (kl s)) hr hg
    clear hA hgd hr hg
    generalize (D.beg (isName (kl s))).2 = r at *
    generalize isName (kl s) = good at *
    go_enter Tryz.func19, Tryz.ntmps19
    go_wp2_with fail
    refine N1.mono ?_
    rintro e w' ⟨rfl, rfl⟩
    go_wp2_with fail
    refine B.mono ?_
    rintro e w2 ⟨rfl, h2, g2⟩
    clear N1 B
    go_wp2
    go_ret
    exact ⟨rfl, G, h2, by rw [HL.out]; exact g0.trans g2⟩
  | some f =>
    have B := reach_some hA ho hs (isName (kl s)) hr hg
    clear hA
    obtain ⟨hf, hn⟩ := get_some hg
    have US := Lib.hid fun w' (h' : DiskAt w' p m G (D.beg (isName (kl s))).2) => used_any h'
    have R0 : ∀ w', DiskAt w' p m G (D.beg (isName (kl s))).2 → w'.cell? ⟨p, 0, none⟩ = some (.int .i64 (D.beg (isName (kl s))).2.room) := fun w' h' => by
      have := h'.cell 0
      simpa [headV] using this
    have R0' := Lib.hid R0
    clear R0
    have hkt := kl_len t
    by_cases hc : (D.beg (isName (kl s))).2.room < (usedF (D.beg (isName (kl s))).2.L : Int) + ((kl t).length : Int)
    · rw [append_f hr hg hc]
      rw [hkt] at hc
      clear hgd hr hg hkt
      generalize (D.beg (isName (kl s))).2 = r at *
      have us : ∀ w', DiskAt w' p m G r → usedF r.L ≤ 4194304 := fun w' h' => used_small h'
      have USM := Lib.hid us
      clear us hf hn
      generalize (G f.nm).1 = gb at *
      generalize isName (kl s) = good at *
      go_enter Tryz.func19, Tryz.ntmps19
      go_wp2_with fail
      refine N1.mono ?_
      rintro e w' ⟨rfl, rfl⟩
      go_wp2_with fail
      refine B.mono ?_
      rintro e w2 ⟨rfl, h2, g2⟩
      clear N1 B
      have us := USM.out w2 h2
      have j0 : DiskAt w2.drew p m G r ∧ Goes w w2.drew (zone p m G D.L) (zone p m G D.L) := ⟨h2.drewN 1, (g0.trans g2).trans (Goes.drewN w2 1 _)⟩
      clear h2 g2 g0 USM
      have q1 : IntKind.i64.wrap ((usedF r.L : Int) + (t.size : Int)) = (usedF r.L : Int) + (t.size : Int) := IntWalk.i64_in _ (by omega)
      go_upto_region 4 with (fail)
      refine wp_region_held (S := fun x => DiskAt x p m G r ∧ Goes w x (zone p m G D.L) (zone p m G D.L)) (by kernel_rfl) ?_
      change wpAnyH _ _ _ _ _ _ _ _ w2.drew
      generalize w2.drew = w2' at j0 ⊢
      refine held_take 0 (.pointer (some ⟨p, 0, none⟩)) rfl (by kernel_rfl) (by kernel_rfl) (by kernel_rfl) (fun _ _ _ h => h) (Or.inl ⟨by rfl, fun x j => by go_simp⟩) j0 (fun K hK => ?_)
      go_simp
      refine hK _ _ ?_
      clear hK K
      refine held_take 2 (.string t) rfl (by kernel_rfl) (by kernel_rfl) (by kernel_rfl) (fun _ _ _ h => h) (Or.inl ⟨by rfl, fun x j => by go_simp⟩) j0 (fun K hK => ?_)
      go_simp
      refine hK _ _ ?_
      clear hK K
      refine held_take 3 (.int .i64 (t.size : Int)) rfl (by kernel_rfl) (by kernel_rfl) (by kernel_rfl) (fun _ _ _ h => h) (Or.inl ⟨by rfl, fun x j => by go_simp⟩) j0 (fun K hK => ?_)
      go_simp
      refine hK _ _ ?_
      clear hK K
      refine held_take 5 (.pointer (some ⟨p, 0, none⟩)) rfl (by kernel_rfl) (by kernel_rfl) (by kernel_rfl) (fun _ _ _ h => h) (Or.inl ⟨by rfl, fun x j => by go_simp⟩) j0 (fun K hK => ?_)
      go_simp
      refine hK _ _ ?_
      clear hK K
      refine held_take 6 (.pointer (some ⟨p, 0, none⟩)) rfl (by kernel_rfl) (by kernel_rfl) (by kernel_rfl) (fun _ _ _ h => h) (Or.inl ⟨by rfl, fun x j => by go_simp⟩) j0 (fun K hK => ?_)
      go_simp
      refine hK _ _ ?_
      clear hK K
      refine held_take 7 (.pointer (some ⟨p, 0, none⟩)) rfl (by kernel_rfl) (by kernel_rfl) (by kernel_rfl) (fun _ _ _ h => h) (Or.inl ⟨by rfl, fun x j => by go_simp⟩) j0 (fun K hK => ?_)
      go_simp
      refine hK _ _ ?_
      clear hK K
      refine held_take 8 (.int .i64 r.room) rfl (by kernel_rfl) (by kernel_rfl) (by kernel_rfl) (fun _ _ _ h => h) (Or.inl ⟨by rfl, fun x j => by have c0 := R0'.out x j.1; go_simp⟩) j0 (fun K hK => ?_)
      go_simp
      refine hK _ _ ?_
      clear hK K
      refine held_one 1 (by kernel_rfl) (fun K hK => wpOp_in rfl rfl ?_)
      go_simp
      refine (US.out _ j0.1).mono ?_
      rintro e w3 ⟨rfl, hb3⟩
      have J1 : DiskAt w3 p m G r ∧ Goes w w3 (zone p m G D.L) (zone p m G D.L) := ⟨j0.1.kept fun b hb => hb3.block b (j0.1.lt hb), j0.2.trans (Goes.of_below hb3 _)⟩
      clear hb3
      refine hK _ _ J1 ?_
      clear hK K j0
      refine held_take 4 (.int .i64 ((usedF r.L : Int) + (t.size : Int))) rfl (by kernel_rfl) (by kernel_rfl) (by kernel_rfl) (fun _ _ _ h => h) (Or.inl ⟨by rfl, fun x j => by go_simp⟩) J1 (fun K hK => ?_)
      go_simp
      refine hK _ _ ?_
      clear hK K
      refine held_take 9 (.bool true) rfl (by kernel_rfl) (by kernel_rfl) (by kernel_rfl) (fun _ _ _ h => h) (Or.inl ⟨by rfl, fun x j => by go_simp⟩) J1 (fun K hK => ?_)
      go_simp
      refine hK _ _ ?_
      clear hK K
      refine wpAnyH_done (by kernel_rfl) ?_ _
      go_wp2
      go_ret
      exact ⟨rfl, G, J1.1, by rw [HL.out]; exact J1.2⟩
    · rw [append_o hr hg hc]
      rw [hkt] at hc
      clear hgd hr hg
      generalize (D.beg (isName (kl s))).2 = r at *
      have us : ∀ w', DiskAt w' p m G r → usedF r.L ≤ 4194304 := fun w' h' => used_small h'
      have USM := Lib.hid us
      have BL := Lib.hid (mem_used hf)
      have FIN : ∀ w3, DiskAt w3 p m G r → Goes w w3 (zone p m G D.L) (zone p m G D.L) → ∀ o' cap' w4, RowB w4 (.slice o' (f.bs.length + t.size) cap') (f.bs ++ kl t) → w3.grownBy w4 (G f.nm).2.ownBlock → (∀ b, Value.ownBlock (.slice o' (f.bs.length + t.size) cap') = some b → (G f.nm).2.ownBlock = some b ∨ w3.heap.size ≤ b) →
          Post w (w4.setCell ⟨(G f.nm).1, 0, none⟩ (.slice o' (f.bs.length + t.size) cap')) p m G D { r with L := updF (kl s) ⟨kl s, f.bs ++ kl t, f.sf⟩ r.L } := by
        intro w3 h3 g3 o' cap' w4 hr4 hg4 hv4
        have hF := h3.file f hf
        rw [← hn]
        have hst : w4.heap[(G f.nm).1]? = some (.cells #[(G f.nm).2, .int .i64 (f.sf : Int)] 89 (0, 0)) := (hg4.block _ (in_heap hF.st) fun e => h3.gr hf hf e.symm rfl).trans hF.st
        have k := h3.setFile (w' := w4.setCell ⟨(G f.nm).1, 0, none⟩ (.slice o' (f.bs.length + t.size) cap')) hf (g := ⟨f.nm, f.bs ++ kl t, f.sf⟩) (v := .slice o' (f.bs.length + t.size) cap') rfl (h3.ok.upd hf rfl (by have := h3.ok.safe f hf; simp; omega) (by simp [hkt]; omega))
          ⟨heap_set _ _ _ _ _ _ _ hst, row_same hr4 fun b hb => Below.heap_setCell _ _ _ _ fun e => by
            rcases hv4 b hb with c | c
            · exact h3.gr hf hf c e.symm
            · have := in_heap hF.st
              simp at e
              omega⟩ (fun b hb hne hne' => (Below.heap_setCell _ _ _ _ hne).trans (hg4.block b hb fun e => hne' e.symm)) hv4
        have z := zone_setFile h3 hf (g := ⟨f.nm, f.bs ++ kl t, f.sf⟩) (v := .slice o' (f.bs.length + t.size) cap') rfl hv4
        refine ⟨_, k, g3.trans ⟨hg4.os, hg4.tape, hg4.output, by simpa using hg4.size, fun b hb hz => (Below.heap_setCell _ _ _ _ fun e => hz (.inr (.inr ⟨f, by rw [← HL.out]; exact hf, .inl e⟩))).trans (hg4.block b hb fun e => hz (.inr (.inr ⟨f, by rw [← HL.out]; exact hf, .inr e.symm⟩))), fun b hb => ?_⟩⟩
        have := z b hb
        rw [HL.out] at this
        exact this
      have FH := Lib.hid FIN
      have CE : ∀ w3, DiskAt w3 p m G r → ∃ o cap, w3.cell? ⟨(G f.nm).1, 0, none⟩ = some (.slice o f.bs.length cap) ∧ w3.frozen? ⟨(G f.nm).1, 0, none⟩ = false ∧ RowB w3 (.slice o f.bs.length cap) f.bs ∧ (G f.nm).2 = .slice o f.bs.length cap ∧ (G f.nm).1 < w3.heap.size ∧ some (G f.nm).1 ≠ (G f.nm).2.ownBlock := by
        intro w3 h3
        have hF := h3.file f hf
        obtain ⟨o, cap, e1, _⟩ := hF.row.form
        have c0 := hF.cell0
        have rw := hF.row
        rw [e1] at c0 rw
        exact ⟨o, cap, c0, hF.frozen 0, rw, e1, in_heap hF.st, fun e => h3.gr hf hf e.symm rfl⟩
      have CH := Lib.hid CE
      clear FIN CE hf hn us hkt
      generalize (G f.nm) = gv at *
      obtain ⟨gb, vv⟩ := gv
      simp only at FH CH B
      generalize isName (kl s) = good at *
      go_enter Tryz.func19, Tryz.ntmps19
      go_wp2_with fail
      refine N1.mono ?_
      rintro e w' ⟨rfl, rfl⟩
      go_wp2_with fail
      refine B.mono ?_
      rintro e w2 ⟨rfl, h2, g2⟩
      clear N1 B
      have us := USM.out w2 h2
      have j0 : DiskAt w2.drew p m G r ∧ Goes w w2.drew (zone p m G D.L) (zone p m G D.L) := ⟨h2.drewN 1, (g0.trans g2).trans (Goes.drewN w2 1 _)⟩
      clear h2 g2 g0 USM
      have q1 : IntKind.i64.wrap ((usedF r.L : Int) + (t.size : Int)) = (usedF r.L : Int) + (t.size : Int) := IntWalk.i64_in _ (by omega)
      go_upto_region 4 with (fail)
      refine wp_region_held (S := fun x => DiskAt x p m G r ∧ Goes w x (zone p m G D.L) (zone p m G D.L)) (by kernel_rfl) ?_
      change wpAnyH _ _ _ _ _ _ _ _ w2.drew
      generalize w2.drew = w2' at j0 ⊢
      refine held_take 0 (.pointer (some ⟨p, 0, none⟩)) rfl (by kernel_rfl) (by kernel_rfl) (by kernel_rfl) (fun _ _ _ h => h) (Or.inl ⟨by rfl, fun x j => by go_simp⟩) j0 (fun K hK => ?_)
      go_simp
      refine hK _ _ ?_
      clear hK K
      refine held_take 2 (.string t) rfl (by kernel_rfl) (by kernel_rfl) (by kernel_rfl) (fun _ _ _ h => h) (Or.inl ⟨by rfl, fun x j => by go_simp⟩) j0 (fun K hK => ?_)
      go_simp
      refine hK _ _ ?_
      clear hK K
      refine held_take 3 (.int .i64 (t.size : Int)) rfl (by kernel_rfl) (by kernel_rfl) (by kernel_rfl) (fun _ _ _ h => h) (Or.inl ⟨by rfl, fun x j => by go_simp⟩) j0 (fun K hK => ?_)
      go_simp
      refine hK _ _ ?_
      clear hK K
      refine held_take 5 (.pointer (some ⟨p, 0, none⟩)) rfl (by kernel_rfl) (by kernel_rfl) (by kernel_rfl) (fun _ _ _ h => h) (Or.inl ⟨by rfl, fun x j => by go_simp⟩) j0 (fun K hK => ?_)
      go_simp
      refine hK _ _ ?_
      clear hK K
      refine held_take 6 (.pointer (some ⟨p, 0, none⟩)) rfl (by kernel_rfl) (by kernel_rfl) (by kernel_rfl) (fun _ _ _ h => h) (Or.inl ⟨by rfl, fun x j => by go_simp⟩) j0 (fun K hK => ?_)
      go_simp
      refine hK _ _ ?_
      clear hK K
      refine held_take 7 (.pointer (some ⟨p, 0, none⟩)) rfl (by kernel_rfl) (by kernel_rfl) (by kernel_rfl) (fun _ _ _ h => h) (Or.inl ⟨by rfl, fun x j => by go_simp⟩) j0 (fun K hK => ?_)
      go_simp
      refine hK _ _ ?_
      clear hK K
      refine held_take 8 (.int .i64 r.room) rfl (by kernel_rfl) (by kernel_rfl) (by kernel_rfl) (fun _ _ _ h => h) (Or.inl ⟨by rfl, fun x j => by have c0 := R0'.out x j.1; go_simp⟩) j0 (fun K hK => ?_)
      go_simp
      refine hK _ _ ?_
      clear hK K
      refine held_one 1 (by kernel_rfl) (fun K hK => wpOp_in rfl rfl ?_)
      go_simp
      refine (US.out _ j0.1).mono ?_
      rintro e w3 ⟨rfl, hb3⟩
      have J1 : DiskAt w3 p m G r ∧ Goes w w3 (zone p m G D.L) (zone p m G D.L) := ⟨j0.1.kept fun b hb => hb3.block b (j0.1.lt hb), j0.2.trans (Goes.of_below hb3 _)⟩
      clear hb3
      refine hK _ _ J1 ?_
      clear hK K j0
      refine held_take 4 (.int .i64 ((usedF r.L : Int) + (t.size : Int))) rfl (by kernel_rfl) (by kernel_rfl) (by kernel_rfl) (fun _ _ _ h => h) (Or.inl ⟨by rfl, fun x j => by go_simp⟩) J1 (fun K hK => ?_)
      go_simp
      refine hK _ _ ?_
      clear hK K
      refine held_take 9 (.bool false) rfl (by kernel_rfl) (by kernel_rfl) (by kernel_rfl) (fun _ _ _ h => h) (Or.inl ⟨by rfl, fun x j => by go_simp⟩) J1 (fun K hK => ?_)
      go_simp
      refine hK _ _ ?_
      clear hK K
      refine wpAnyH_done (by kernel_rfl) ?_ _
      obtain ⟨o1, cap1, c0, f0, rw0, rfl, lt0, ne0⟩ := CH.out w3 J1.1
      have bl := BL.out
      have F2 := Lib.hid (FH.out w3 J1.1 J1.2)
      clear CH FH J1 BL
      go_wp2_with (first | (at_builtin; refine wpl_append rw0 (by omega) rfl _ _ rfl rfl rfl ?_; intro o2 cap2 w4 hr4 hg4 hv4; have c4 := (World.cell?_of_block (a := ⟨gb, 0, none⟩) (hg4.block gb lt0 ne0)).trans c0; have f4 := (World.frozen?_of_block (a := ⟨gb, 0, none⟩) (hg4.block gb lt0 ne0)).trans f0))
      go_ret
      exact ⟨rfl, F2.out o2 cap2 w4 hr4 hg4 hv4⟩
end
end Go.Proofs.YtdmgobffhpgjlaaGreat.Pk
end

section
namespace Go.Proofs.YtdmgobffhpgjlaaGreat.Pk
open Go.RowKit Go.PlainAid Go.Maps
set_option linter.unusedVariables false
set_option maxRecDepth 20000
set_option linter.unusedSimpArgs false

theorem size_u8 (w : World) : (sizeOf 5).run Tryz.prog w = .ok 1 w := size_of (by kernel_rfl) w
theorem cut_nil_to (w : World) : (Instr.sliceAt 87 (.slice none 0 0) none (some (.int .i64 0)) none).run Tryz.prog w = .ok (.slice none 0 0) w := by
  have hz := size_u8 w
  simp [Instr.sliceAt, Instr.slice, run_underlying Tryz.underlying87, Instr.sliceBounds, run_sliceBound, hz]
theorem cut_nil_from (w : World) : (Instr.sliceAt 87 (.slice none 0 0) (some (.int .i64 0)) none none).run Tryz.prog w = .ok (.slice none 0 0) w := by
  have hz := size_u8 w
  simp [Instr.sliceAt, Instr.slice, run_underlying Tryz.underlying87, Instr.sliceBounds, run_sliceBound, hz]
/-- bytes[:k] -/
theorem cut_to (w : World) (g a n cap k : Nat) (hk : k ≤ cap) :
    (Instr.sliceAt 87 (.slice (some ⟨g, a, none⟩) n cap) none (some (.int .i64 (k : Int))) none).run Tryz.prog w = .ok (.slice (some ⟨g, a, none⟩) k cap) w := by
  have h0 : (0 : Int) ≤ (k : Int) := by omega
  have h1 : (k : Int) ≤ (cap : Int) := by omega
  have hz := size_u8 w
  by_cases h2 : cap = 0
  · subst h2
    obtain rfl : k = 0 := by omega
    simp [Instr.sliceAt, Instr.slice, run_underlying Tryz.underlying87, Instr.sliceBounds, run_sliceBound, hz]
  · simp [Instr.sliceAt, Instr.slice, run_underlying Tryz.underlying87, Instr.sliceBounds, run_sliceBound, hz, h0, h1, h2, add_addr]
/-- bytes[k:] -/
theorem cut_from (w : World) (g n cap k : Nat) (hk : k ≤ n) :
    (Instr.sliceAt 87 (.slice (some ⟨g, 0, none⟩) n cap) (some (.int .i64 (k : Int))) none none).run Tryz.prog w = .ok (.slice (some ⟨g, if cap = k then 0 else k, none⟩) (n - k) (cap - k)) w := by
  have h0 : (0 : Int) ≤ (k : Int) := by omega
  have h1 : (k : Int) ≤ (n : Int) := by omega
  have hz := size_u8 w
  by_cases h2 : cap = k
  · simp [Instr.sliceAt, Instr.slice, run_underlying Tryz.underlying87, Instr.sliceBounds, run_sliceBound, hz, h0, h1, h2]
  · simp [Instr.sliceAt, Instr.slice, run_underlying Tryz.underlying87, Instr.sliceBounds, run_sliceBound, hz, h0, h1, h2, add_addr]
theorem empty_text (w : World) (g a cap : Nat) : (convert 87 9 (.slice (some ⟨g, a, none⟩) 0 cap)).run Tryz.prog w = .ok (.string ⟨#[]⟩) w := by
  have := run_convert_bytes_back w 87 9 5 ⟨g, a, none⟩ cap [] Tryz.underlying87 Tryz.underlying5 Tryz.underlying9 (P := Tryz.prog) fun j hj => by simp at hj
  exact this
theorem cut_text {w : World} {v : Value} {bs : Bs} (h : RowB w v bs) {a k : Nat} (ha : a ≤ bs.length) (hk : k ≤ bs.length - a) : ∃ o1 c1 o2, (Instr.sliceAt 87 v (some (.int .i64 (a : Int))) none none).run Tryz.prog w = .ok (.slice o1 (bs.length - a) c1) w ∧
    (Instr.sliceAt 87 (.slice o1 (bs.length - a) c1) none (some (.int .i64 (k : Int))) none).run Tryz.prog w = .ok (.slice o2 k c1) w ∧ (convert 87 9 (.slice o2 k c1)).run Tryz.prog w = .ok (.string ⟨((bs.drop a).take k).toArray⟩) w := by
  rcases h with ⟨rfl, rfl⟩ | ⟨g, cap, cur, fr, rfl, hg, hf, hl, hm, hc, ht⟩
  · simp at ha
    subst ha
    simp at hk
    subst hk
    exact ⟨none, 0, none, cut_nil_from w, cut_nil_to w, RowB.text (.inl ⟨rfl, rfl⟩)⟩
  · have R : RowB w (.slice (some ⟨g, 0, none⟩) bs.length cap) bs := .inr ⟨g, cap, cur, fr, rfl, hg, hf, hl, hm, hc, ht⟩
    refine ⟨_, _, _, cut_from w g bs.length cap a ha, cut_to w g _ _ _ k (by omega), ?_⟩
    by_cases h2 : cap = a
    · have : k = 0 := by omega
      subst this
      rw [empty_text]
      simp
    · rw [if_neg h2]
      exact part_text (cap := cap) (fun j c hj => (R.cells.2 j c hj).1) (by omega) _
end Go.Proofs.YtdmgobffhpgjlaaGreat.Pk
end

section
namespace Go.Proofs.YtdmgobffhpgjlaaGreat.Pk
open Go.RowKit Go.PlainAid Go.Maps
set_option linter.unusedVariables false
set_option maxRecDepth 20000
set_option linter.unusedSimpArgs false

section
variable {w w' : World} {p m : Nat} {G : Gs} {D : Dk}
theorem rename_r {nm to : Bs} (hr : (D.beg (isName nm && isName to)).1 ≠ 0) : D.rename nm to = D.beg (isName nm && isName to) := by
  unfold Dk.rename
  simp only
  rw [if_pos hr]
theorem rename_n {nm to : Bs} (hr : (D.beg (isName nm && isName to)).1 = 0) (hg : getF nm (D.beg (isName nm && isName to)).2.L = none) : D.rename nm to = (7, (D.beg (isName nm && isName to)).2) := by
  unfold Dk.rename
  simp only
  rw [if_neg (by simpa using hr), hg]
theorem rename_s {nm to : Bs} (hr : (D.beg (isName nm && isName to)).1 = 0) {f : Fi} (hg : getF nm (D.beg (isName nm && isName to)).2.L = some f) : D.rename nm to = (0, { (D.beg (isName nm && isName to)).2 with L := insF ⟨to, f.bs, f.sf⟩ (delF to (delF nm (D.beg (isName nm && isName to)).2.L)) }) := by
  unfold Dk.rename
  simp only
  rw [if_neg (by simpa using hr), hg]
set_option maxRecDepth 100000 in
set_option maxHeartbeats 2000000 in
theorem rename_any (h : DiskAt w p m G D) (ho : D.ops ≤ 1099511627776) {s t : ByteArray} (hs : s.size ≤ 9223372036854775807) (ht : t.size ≤ 9223372036854775807) :
    Calls Tryz.prog 85 #[.pointer (some ⟨p, 0, none⟩), .string s, .string t] w fun e w' => e = .returned (.int .i64 (D.rename (kl s) (kl t)).1) ∧ Post w w' p m G D (D.rename (kl s) (kl t)).2 := by
  have N1 := name_two w hs ht
  have hA := h.alloc (.cells #[.string s, .string t] 9)
  have g0 := Goes.alloc w (.cells #[.string s, .string t] 9) (zone p m G D.L)
  have HL := Lib.hid (beg_L D (isName (kl s) && isName (kl t))).1
  clear h
  by_cases hr : (D.beg (isName (kl s) && isName (kl t))).1 ≠ 0
  · rw [rename_r hr]
    have B := reach_no hA ho hs (isName (kl s) && isName (kl t)) hr
    clear hA
    generalize D.beg (isName (kl s) && isName (kl t)) = r at *
    obtain ⟨r1, r2⟩ := r
    simp only at hr B HL ⊢
    generalize (isName (kl s) && isName (kl t)) = good at *
    go_enter Tryz.func85, Tryz.ntmps85
    go_wp2_with fail
    refine N1.mono ?_
    rintro e w' ⟨rfl, rfl⟩
    go_wp2_with fail
    refine B.mono ?_
    rintro e w2 ⟨rfl, h2, g2⟩
    clear N1 B
    go_wp2
    go_ret
    exact ⟨rfl, G, h2, by rw [HL.out]; exact g0.trans g2⟩
  have hr : (D.beg (isName (kl s) && isName (kl t))).1 = 0 := by simpa using hr
  have hgd := beg_good hr
  cases hg : getF (kl s) (D.beg (isName (kl s) && isName (kl t))).2.L with
  | none =>
    rw [rename_n hr hg]
    have B := reach_none hA ho hs (isName (kl s) && isName (kl t)) hr hg
    clear hA hgd hr hg
    generalize (D.beg (isName (kl s) && isName (kl t))).2 = r at *
    generalize (isName (kl s) && isName (kl t)) = good at *
    go_enter Tryz.func85, Tryz.ntmps85
    go_wp2_with fail
    refine N1.mono ?_
    rintro e w' ⟨rfl, rfl⟩
    go_wp2_with fail
    refine B.mono ?_
    rintro e w2 ⟨rfl, h2, g2⟩
    clear N1 B
    go_wp2
    go_ret
    exact ⟨rfl, G, h2, by rw [HL.out]; exact g0.trans g2⟩
  | some f =>
    have B := reach_some hA ho hs (isName (kl s) && isName (kl t)) hr hg
    clear hA
    obtain ⟨hf, hn⟩ := get_some hg
    rw [rename_s hr hg]
    have hto : isName (kl t) = true := by
      simp only [Bool.and_eq_true] at hgd
      exact hgd.2
    clear hgd hr hg
    generalize (D.beg (isName (kl s) && isName (kl t))).2 = r at *
    have FIN : ∀ w2, DiskAt w2 p m G r → ∀ w3, w3.ownsMap Tryz.prog 9 RF m r.L.length ((datum G r.L).del (.string (kl s))) → w2.mapTurned w3 m → Goes w w2 (zone p m G D.L) (zone p m G D.L) → ∀ w4 n, w4.ownsMap Tryz.prog 9 RF m n (((datum G r.L).del (.string (kl s))).put (.string (kl t)) (.lit (.int .i64 ((G f.nm).1 : Int)))) → w3.grownBy w4 (some m) →
        Post w w4 p m G D { r with L := insF ⟨kl t, f.bs, f.sf⟩ (delF (kl t) (delF (kl s) r.L)) } := by
      intro w2 h2 w3 hm3 ht3 g2 w4 n hm4 hg4
      have hg3 := ht3.grown
      have h3 := h2.del (w' := w3) (kl s) hm3 fun b hb hne => hg3.block b hb fun e => hne (Option.some.inj e)
      have both : ∀ b, b < w2.heap.size → b ≠ m → w4.heap[b]? = w2.heap[b]? := fun b hb hne => (hg4.block b (Nat.lt_of_lt_of_le hb hg3.size) fun e => hne (Option.some.inj e)).trans (hg3.block b hb fun e => hne (Option.some.inj e))
      have hF := h2.file f hf
      have hF4 : FileAt w4 ⟨kl t, f.bs, f.sf⟩ ((G f.nm).1, (G f.nm).2) := ⟨(both _ (in_heap hF.st) (h2.mg hf).symm).trans hF.st, row_same hF.row fun b hb => both b (h2.lt (.inr (.inr ⟨f, hf, .inr hb⟩))) (h2.mr hf hb).symm⟩
      have hu := used_del h2.ok.up.ne hf
      have hl := len_del h2.ok.up.ne hf
      rw [hn] at hu hl
      have huse := h2.ok.used
      have hcnt := h2.ok.cnt
      have ok : { r with L := insF ⟨kl t, f.bs, f.sf⟩ (delF (kl t) (delF (kl s) r.L)) }.Ok := by
        have o1 := (h2.ok.del (kl s)).del (kl t)
        refine o1.ins (D := { r with L := delF (kl t) (delF (kl s) r.L) }) hto (h2.ok.safe f hf) (fun x hx => (mem_del.1 hx).2) ?_ ?_
        · have : usedF (delF (kl t) (delF (kl s) r.L)) ≤ usedF (delF (kl s) r.L) := by
            cases hgt : getF (kl t) (delF (kl s) r.L) with
            | none => rw [del_none (get_none hgt)]; exact Nat.le_refl _
            | some x =>
              obtain ⟨x1, x2⟩ := get_some hgt
              have := used_del (h2.ok.up.del (kl s)).ne x1
              rw [x2] at this
              omega
          simp
          omega
        · have : (delF (kl t) (delF (kl s) r.L)).length ≤ (delF (kl s) r.L).length := List.length_filter_le _ _
          simp
          omega
      rw [datum_del] at hm4
      have k := h3.put (w' := w4) (f := ⟨kl t, f.bs, f.sf⟩) (g := (G f.nm).1) (v := (G f.nm).2) hm4 ok hF4 ?_ ?_ ?_
      · refine ⟨_, k, g2.trans ⟨hg4.os.trans hg3.os, hg4.tape.trans hg3.tape, hg4.output.trans hg3.output, Nat.le_trans hg3.size hg4.size, fun b hb hz => both b hb fun e => hz (.inr (.inl e)), fun b hb => ?_⟩⟩
        rcases zone_put (D := { r with L := delF (kl s) r.L }) b hb with c | c | c
        · have := zone_del (kl s) b c
          rw [HL.out] at this
          exact .inl this
        · exact .inl (.inr (.inr ⟨f, by rw [← HL.out]; exact hf, .inl c⟩))
        · exact .inl (.inr (.inr ⟨f, by rw [← HL.out]; exact hf, .inr c⟩))
      · intro b hb hne
        exact hg4.block b (h3.lt (zone_del (kl t) b hb)) fun e => hne (Option.some.inj e)
      · intro x hx e
        obtain ⟨hx1, hx2⟩ := mem_del.1 (mem_del.1 hx).1
        exact (h2.apart f hf x hx1 (by rw [hn]; exact hx2.symm)).1 e
      · intro b hb x hx
        obtain ⟨hx1, hx2⟩ := mem_del.1 (mem_del.1 hx).1
        exact (h2.apart f hf x hx1 (by rw [hn]; exact hx2.symm)).2 b hb
    have FH := Lib.hid FIN
    have hkey := keyN hs
    have hkey2 := keyN ht
    have CN : ∀ w', DiskAt w' p m G r → r.L.length ≤ 200 := fun w' h' => h'.ok.cnt
    have CNH := Lib.hid CN
    clear FIN hf hn CN hto
    generalize (G f.nm).1 = gb at *
    generalize (isName (kl s) && isName (kl t)) = good at *
    go_enter Tryz.func85, Tryz.ntmps85
    go_wp2_with fail
    refine N1.mono ?_
    rintro e w' ⟨rfl, rfl⟩
    go_wp2_with fail
    refine B.mono ?_
    rintro e w2 ⟨rfl, h2, g2⟩
    clear N1 B
    have c1 := h2.hand
    have pm := h2.pm
    have lp := in_heap h2.head
    have hown := h2.map
    have cn := CNH.out w2 h2
    have F2 := Lib.hid (FH.out w2 h2)
    have G2 := Lib.hid (g0.trans g2)
    clear h2 g2 g0 FH CNH
    go_wp2_with (first | (at_delete; refine wpList_delete_own _ rfl _ _ 70 9 rfl 86 kname Tryz.underlying70 _ m _ _ rfl hown _ _ rfl hkey ?_; intro w3 ho3 ht3; have c3 := (World.cell?_of_block (a := ⟨p, 1, none⟩) (ht3.grown.block p lp fun e => pm (Option.some.inj e))).trans c1) | (at_mapUpdate; refine wpList_mapUpdate_own _ rfl _ _ _ 70 rfl 9 86 kname Tryz.underlying70 _ m r.L.length _ rfl ho3 (by unfold maxLen; omega) _ _ _ rfl rfl hkey2 _ [] (RF_ptr _) ?_; intro w4 ho4 hg4))
    go_ret
    exact ⟨rfl, F2.out w3 ho3 ht3 G2.out w4 _ ho4 hg4⟩
theorem read_b {nm : Bs} {pos n : Int} (hr : (isName nm && decide (0 ≤ pos) && decide (0 ≤ n)) = false) : D.read nm pos n = ([], 1, D) := by
  unfold Dk.read
  rw [hr]
  rfl
theorem read_r {nm : Bs} {pos n : Int} (hb : (isName nm && decide (0 ≤ pos) && decide (0 ≤ n)) = true) (hr : (D.beg true).1 ≠ 0) : D.read nm pos n = ([], D.beg true) := by
  unfold Dk.read
  rw [hb]
  simp only
  rw [if_pos hr]
theorem read_n {nm : Bs} {pos n : Int} (hb : (isName nm && decide (0 ≤ pos) && decide (0 ≤ n)) = true) (hr : (D.beg true).1 = 0) (hg : getF nm (D.beg true).2.L = none) : D.read nm pos n = ([], 7, (D.beg true).2) := by
  unfold Dk.read
  rw [hb]
  simp only
  rw [if_neg (by simpa using hr), hg]
theorem read_f {nm : Bs} {pos n : Int} (hb : (isName nm && decide (0 ≤ pos) && decide (0 ≤ n)) = true) (hr : (D.beg true).1 = 0) {f : Fi} (hg : getF nm (D.beg true).2.L = some f) (hc : (f.bs.length : Int) < pos) : D.read nm pos n = ([], 14, (D.beg true).2) := by
  unfold Dk.read
  rw [hb]
  simp only
  rw [if_neg (by simpa using hr), hg]
  simp only
  rw [if_pos hc]
theorem read_o {nm : Bs} {pos n : Int} (hb : (isName nm && decide (0 ≤ pos) && decide (0 ≤ n)) = true) (hr : (D.beg true).1 = 0) {f : Fi} (hg : getF nm (D.beg true).2.L = some f) (hc : ¬ (f.bs.length : Int) < pos) : D.read nm pos n = ((f.bs.drop pos.toNat).take n.toNat, 0, (D.beg true).2) := by
  unfold Dk.read
  rw [hb]
  simp only
  rw [if_neg (by simpa using hr), hg]
  simp only
  rw [if_neg hc]
set_option maxRecDepth 100000 in
set_option maxHeartbeats 2000000 in
theorem read_any (h : DiskAt w p m G D) (ho : D.ops ≤ 1099511627776) {s : ByteArray} (hs : s.size ≤ 9223372036854775807) (pos n : Int) (hp : pos ≤ 9223372036854775807) (hn : n ≤ 9223372036854775807) :
    Calls Tryz.prog 65 #[.pointer (some ⟨p, 0, none⟩), .string s, .int .i64 pos, .int .i64 n] w fun e w' => e = .returned (.tuple #[.string ⟨(D.read (kl s) pos n).1.toArray⟩, .int .i64 (D.read (kl s) pos n).2.1]) ∧ Post w w' p m G D (D.read (kl s) pos n).2.2 := by
  have N1 := name_one w hs
  have hA := h.alloc (.cells #[.string s] 9)
  have g0 := Goes.alloc w (.cells #[.string s] 9) (zone p m G D.L)
  have HL := Lib.hid (beg_L D true).1
  clear h
  by_cases b1 : isName (kl s) = false
  · rw [read_b (by simp [b1])]
    rw [b1] at N1
    clear b1
    have B := reach_no hA ho hs false (by simp [Dk.beg])
    rw [show D.beg false = (1, D) from rfl] at B
    clear hA HL
    go_enter Tryz.func65, Tryz.ntmps65
    go_wp2_with fail
    refine N1.mono ?_
    rintro e w' ⟨rfl, rfl⟩
    go_wp2_with fail
    refine B.mono ?_
    rintro e w2 ⟨rfl, h2, g2⟩
    clear N1 B
    go_wp2
    go_ret2
    exact ⟨rfl, G, h2, g0.trans g2⟩
  have b1 : isName (kl s) = true := by simpa using b1
  rw [b1] at N1
  by_cases b2 : pos < 0
  · rw [read_b (by have : ¬ 0 ≤ pos := by omega
                   simp [this])]
    clear b1
    have b2' : ¬ 0 ≤ pos := by omega
    have B := reach_no hA ho hs false (by simp [Dk.beg])
    rw [show D.beg false = (1, D) from rfl] at B
    clear hA HL
    go_enter Tryz.func65, Tryz.ntmps65
    go_wp2_with fail
    refine N1.mono ?_
    rintro e w' ⟨rfl, rfl⟩
    go_wp2_with fail
    refine B.mono ?_
    rintro e w2 ⟨rfl, h2, g2⟩
    clear N1 B
    go_wp2
    go_ret2
    exact ⟨rfl, G, h2, g0.trans g2⟩
  by_cases b3 : n < 0
  · rw [read_b (by have : ¬ 0 ≤ n := by omega
                   simp [this])]
    clear b1
    have b2' : 0 ≤ pos := by omega
    have b3' : ¬ 0 ≤ n := by omega
    have b4' : decide (0 ≤ n) = false := decide_eq_false b3'
    have B := reach_no hA ho hs false (by simp [Dk.beg])
    rw [show D.beg false = (1, D) from rfl] at B
    clear hA HL
    go_enter Tryz.func65, Tryz.ntmps65
    go_wp2_with fail
    refine N1.mono ?_
    rintro e w' ⟨rfl, rfl⟩
    go_wp2_with fail
    refine B.mono ?_
    rintro e w2 ⟨rfl, h2, g2⟩
    clear N1 B
    go_wp2
    go_ret2
    exact ⟨rfl, G, h2, g0.trans g2⟩
  have hb : (isName (kl s) && decide (0 ≤ pos) && decide (0 ≤ n)) = true := by
    have c2 : 0 ≤ pos := by omega
    have c3 : 0 ≤ n := by omega
    simp [b1, c2, c3]
  clear b1
  have b2' : 0 ≤ pos := by omega
  have b3' : 0 ≤ n := by omega
  have b4' : decide (0 ≤ n) = true := decide_eq_true b3'
  by_cases hr : (D.beg true).1 ≠ 0
  · rw [read_r hb hr]
    have B := reach_no hA ho hs true hr
    clear hA hb
    generalize D.beg true = r at *
    obtain ⟨r1, r2⟩ := r
    simp only at hr B HL ⊢
    go_enter Tryz.func65, Tryz.ntmps65
    go_wp2_with fail
    refine N1.mono ?_
    rintro e w' ⟨rfl, rfl⟩
    go_wp2_with fail
    refine B.mono ?_
    rintro e w2 ⟨rfl, h2, g2⟩
    clear N1 B
    go_wp2
    go_ret2
    exact ⟨rfl, G, h2, by rw [HL.out]; exact g0.trans g2⟩
  have hr : (D.beg true).1 = 0 := by simpa using hr
  cases hg : getF (kl s) (D.beg true).2.L with
  | none =>
    rw [read_n hb hr hg]
    have B := reach_none hA ho hs true hr hg
    clear hA hb hr hg
    generalize (D.beg true).2 = r at *
    go_enter Tryz.func65, Tryz.ntmps65
    go_wp2_with fail
    refine N1.mono ?_
    rintro e w' ⟨rfl, rfl⟩
    go_wp2_with fail
    refine B.mono ?_
    rintro e w2 ⟨rfl, h2, g2⟩
    clear N1 B
    go_wp2
    go_ret2
    exact ⟨rfl, G, h2, by rw [HL.out]; exact g0.trans g2⟩
  | some f =>
    have B := reach_some hA ho hs true hr hg
    clear hA
    obtain ⟨hf, _⟩ := get_some hg
    have CE : ∀ w2, DiskAt w2 p m G (D.beg true).2 → ∃ o cap, w2.cell? ⟨(G f.nm).1, 0, none⟩ = some (.slice o f.bs.length cap) ∧ RowB w2 (.slice o f.bs.length cap) f.bs := by
      intro w2 h2
      have hF := h2.file f hf
      obtain ⟨o, cap, e1, _⟩ := hF.row.form
      have c0 := hF.cell0
      have rw := hF.row
      rw [e1] at c0 rw
      exact ⟨o, cap, c0, rw⟩
    have BL : ∀ w2, DiskAt w2 p m G (D.beg true).2 → f.bs.length ≤ 4194304 := fun w2 h2 => Nat.le_trans (mem_used hf) (used_small h2)
    have CH := Lib.hid CE
    have BH := Lib.hid BL
    clear CE BL hf
    by_cases hc : (f.bs.length : Int) < pos
    · rw [read_f hb hr hg hc]
      clear hb hr hg
      generalize (D.beg true).2 = r at *
      generalize (G f.nm).1 = gb at *
      go_enter Tryz.func65, Tryz.ntmps65
      go_wp2_with fail
      refine N1.mono ?_
      rintro e w' ⟨rfl, rfl⟩
      go_wp2_with fail
      refine B.mono ?_
      rintro e w2 ⟨rfl, h2, g2⟩
      clear N1 B
      obtain ⟨o, cap, c0, _⟩ := CH.out w2 h2
      have H2 := Lib.hid h2
      have G2 := Lib.hid (g0.trans g2)
      clear CH BH h2 g2 g0
      generalize f.bs.length = len at *
      go_wp2
      go_ret2
      exact ⟨rfl, G, H2.out, by rw [HL.out]; exact G2.out⟩
    · rw [read_o hb hr hg hc]
      clear hb hr hg
      generalize (D.beg true).2 = r at *
      generalize (G f.nm).1 = gb at *
      obtain ⟨a, rfl⟩ : ∃ a : Nat, pos = (a : Int) := ⟨pos.toNat, by omega⟩
      obtain ⟨k, rfl⟩ : ∃ k : Nat, n = (k : Int) := ⟨n.toNat, by omega⟩
      rw [Int.toNat_natCast, Int.toNat_natCast]
      go_enter Tryz.func65, Tryz.ntmps65
      go_wp2_with fail
      refine N1.mono ?_
      rintro e w' ⟨rfl, rfl⟩
      go_wp2_with fail
      refine B.mono ?_
      rintro e w2 ⟨rfl, h2, g2⟩
      clear N1 B
      obtain ⟨o, cap, c0, rw0⟩ := CH.out w2 h2
      have bl := BH.out w2 h2
      have ha : a ≤ f.bs.length := by omega
      have hm : min k (f.bs.length - a) ≤ f.bs.length - a := Nat.min_le_right _ _
      obtain ⟨o1, c1, o2, S1, S2, CV⟩ := cut_text rw0 ha hm
      have e3 : (f.bs.drop a).take (min k (f.bs.length - a)) = (f.bs.drop a).take k := by
        rcases Nat.le_total k (f.bs.length - a) with c | c
        · rw [Nat.min_eq_left c]
        · rw [Nat.min_eq_right c, List.take_of_length_le (by simp), List.take_of_length_le (by simp; omega)]
      rw [e3] at CV
      have e4 : ((min k (f.bs.length - a) : Nat) : Int) = min (k : Int) ((f.bs.length - a : Nat) : Int) := by omega
      rw [e4] at S2
      have H2 := Lib.hid h2
      have G2 := Lib.hid (g0.trans g2)
      have nc : ¬ (f.bs.length : Int) < (a : Int) := by omega
      clear CH BH h2 g2 g0 e3 rw0 hc b2 b3 hp hn b2' b3' b4'
      generalize min k (f.bs.length - a) = mk at *
      generalize f.bs.length - a = rest at *
      go_wp2
      go_ret2
      exact ⟨rfl, G, H2.out, by rw [HL.out]; exact G2.out⟩
end
end Go.Proofs.YtdmgobffhpgjlaaGreat.Pk
end
