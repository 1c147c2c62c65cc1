/-
  Contracts of Delete, Sync and Append.
-/
import Derived.Test.YtdmgobffhpgjlaaGreatPkOps
namespace Go.Proofs.YtdmgobffhpgjlaaGreat.Pk
open Go.RowKit Go.PlainAid Go.Maps
set_option linter.unusedVariables false
set_option maxRecDepth 20000
set_option linter.unusedSimpArgs false

section
variable {w w' : World} {p m : Nat} {G : Gs} {D : Dk}
theorem delete_r {nm : Bs} (hr : (D.beg (isName nm)).1 ≠ 0) : D.delete nm = D.beg (isName nm) := by
  unfold Dk.delete
  simp only
  rw [if_pos hr]
theorem delete_n {nm : Bs} (hr : (D.beg (isName nm)).1 = 0) (hg : getF nm (D.beg (isName nm)).2.L = none) : D.delete nm = (7, (D.beg (isName nm)).2) := by
  unfold Dk.delete
  simp only
  rw [if_neg (by simpa using hr), hg]
theorem delete_s {nm : Bs} (hr : (D.beg (isName nm)).1 = 0) {f : Fi} (hg : getF nm (D.beg (isName nm)).2.L = some f) : D.delete nm = (0, { (D.beg (isName nm)).2 with L := delF nm (D.beg (isName nm)).2.L }) := by
  unfold Dk.delete
  simp only
  rw [if_neg (by simpa using hr), hg]
set_option maxRecDepth 100000 in
set_option maxHeartbeats 2000000 in
theorem delete_any (h : DiskAt w p m G D) (ho : D.ops ≤ 1099511627776) {s : ByteArray} (hs : s.size ≤ 9223372036854775807) :
    Calls Tryz.prog 89 #[.pointer (some ⟨p, 0, none⟩), .string s] w fun e w' => e = .returned (.int .i64 (D.delete (kl s)).1) ∧ Post w w' p m G D (D.delete (kl s)).2 := by
  have N1 := name_one w hs
  have hA := h.alloc (.cells #[.string s] 9)
  have g0 := Goes.alloc w (.cells #[.string s] 9) (zone p m G D.L)
  have HL := Lib.hid (beg_L D (isName (kl s))).1
  clear h
  by_cases hr : (D.beg (isName (kl s))).1 ≠ 0
  · rw [delete_r hr]
    have B := reach_no hA ho hs (isName (kl s)) hr
    clear hA
    generalize D.beg (isName (kl s)) = r at *
    obtain ⟨r1, r2⟩ := r
    simp only at hr B HL ⊢
    generalize isName (kl s) = good at *
    go_enter Tryz.func89, Tryz.ntmps89
    go_wp2_with fail
    refine N1.mono ?_
    rintro e w' ⟨rfl, rfl⟩
    go_wp2_with fail
    refine B.mono ?_
    rintro e w2 ⟨rfl, h2, g2⟩
    clear N1 B
    go_wp2
    go_ret
    exact ⟨rfl, G, h2, by rw [HL.out]; exact g0.trans g2⟩
  have hr : (D.beg (isName (kl s))).1 = 0 := by simpa using hr
  have hgd := beg_good hr
  cases hg : getF (kl s) (D.beg (isName (kl s))).2.L with
  | none =>
    rw [delete_n hr hg]
    have B := reach_none hA ho hs (isName (kl s)) hr hg
    clear hA hgd hr hg
    generalize (D.beg (isName (kl s))).2 = r at *
    generalize isName (kl s) = good at *
    go_enter Tryz.func89, Tryz.ntmps89
    go_wp2_with fail
    refine N1.mono ?_
    rintro e w' ⟨rfl, rfl⟩
    go_wp2_with fail
    refine B.mono ?_
    rintro e w2 ⟨rfl, h2, g2⟩
    clear N1 B
    go_wp2
    go_ret
    exact ⟨rfl, G, h2, by rw [HL.out]; exact g0.trans g2⟩
  | some f =>
    have B := reach_some hA ho hs (isName (kl s)) hr hg
    clear hA
    obtain ⟨hf, hn⟩ := get_some hg
    rw [delete_s hr hg]
    clear hgd hr hg
    generalize (D.beg (isName (kl s))).2 = r at *
    generalize (G f.nm).1 = gb at *
    have FIN : ∀ w2, DiskAt w2 p m G r → ∀ w3, w3.ownsMap Tryz.prog 9 RF m r.L.length ((datum G r.L).del (.string (kl s))) → w2.mapTurned w3 m → Goes w w2 (zone p m G D.L) (zone p m G D.L) → Post w w3 p m G D { r with L := delF (kl s) r.L } := by
      intro w2 h2 w3 hm ht g2
      have hg := ht.grown
      refine ⟨G, h2.del (kl s) hm fun b hb hne => hg.block b hb fun e => hne (Option.some.inj e), g2.trans ⟨hg.os, hg.tape, hg.output, hg.size, fun b hb hz => hg.block b hb fun e => hz (.inr (.inl (Option.some.inj e))), fun b hb => .inl ?_⟩⟩
      have := zone_del (kl s) b hb
      rw [HL.out] at this
      exact this
    have FH := Lib.hid FIN
    have hkey := keyN hs
    clear FIN hf hn
    generalize isName (kl s) = good at *
    go_enter Tryz.func89, Tryz.ntmps89
    go_wp2_with fail
    refine N1.mono ?_
    rintro e w' ⟨rfl, rfl⟩
    go_wp2_with fail
    refine B.mono ?_
    rintro e w2 ⟨rfl, h2, g2⟩
    clear N1 B
    have c1 := h2.hand
    have hown := h2.map
    have F2 := Lib.hid (FH.out w2 h2)
    have G2 := Lib.hid (g0.trans g2)
    clear h2 g2 g0 FH
    go_wp2_with (first | (at_delete; refine wpList_delete_own _ rfl _ _ 70 9 rfl 86 kname Tryz.underlying70 _ m _ _ rfl hown _ _ rfl hkey ?_; intro w3 ho3 ht3))
    go_ret
    exact ⟨rfl, F2.out w3 ho3 ht3 G2.out⟩
theorem sync_r {nm : Bs} (hr : (D.beg (isName nm)).1 ≠ 0) : D.sync nm = D.beg (isName nm) := by
  unfold Dk.sync
  simp only
  rw [if_pos hr]
theorem sync_n {nm : Bs} (hr : (D.beg (isName nm)).1 = 0) (hg : getF nm (D.beg (isName nm)).2.L = none) : D.sync nm = (7, (D.beg (isName nm)).2) := by
  unfold Dk.sync
  simp only
  rw [if_neg (by simpa using hr), hg]
theorem sync_s {nm : Bs} (hr : (D.beg (isName nm)).1 = 0) {f : Fi} (hg : getF nm (D.beg (isName nm)).2.L = some f) : D.sync nm = (0, { (D.beg (isName nm)).2 with L := updF nm ⟨nm, f.bs, f.bs.length⟩ (D.beg (isName nm)).2.L }) := by
  unfold Dk.sync
  simp only
  rw [if_neg (by simpa using hr), hg]
set_option maxRecDepth 100000 in
set_option maxHeartbeats 2000000 in
theorem sync_any (h : DiskAt w p m G D) (ho : D.ops ≤ 1099511627776) {s : ByteArray} (hs : s.size ≤ 9223372036854775807) :
    Calls Tryz.prog 56 #[.pointer (some ⟨p, 0, none⟩), .string s] w fun e w' => e = .returned (.int .i64 (D.sync (kl s)).1) ∧ Post w w' p m G D (D.sync (kl s)).2 := by
  have N1 := name_one w hs
  have hA := h.alloc (.cells #[.string s] 9)
  have g0 := Goes.alloc w (.cells #[.string s] 9) (zone p m G D.L)
  have HL := Lib.hid (beg_L D (isName (kl s))).1
  clear h
  by_cases hr : (D.beg (isName (kl s))).1 ≠ 0
  · rw [sync_r hr]
    have B := reach_no hA ho hs (isName (kl s)) hr
    clear hA
    generalize D.beg (isName (kl s)) = r at *
    obtain ⟨r1, r2⟩ := r
    simp only at hr B HL ⊢
    generalize isName (kl s) = good at *
    go_enter Tryz.func56, Tryz.ntmps56
    go_wp2_with fail
    refine N1.mono ?_
    rintro e w' ⟨rfl, rfl⟩
    go_wp2_with fail
    refine B.mono ?_
    rintro e w2 ⟨rfl, h2, g2⟩
    clear N1 B
    go_wp2
    go_ret
    exact ⟨rfl, G, h2, by rw [HL.out]; exact g0.trans g2⟩
  have hr : (D.beg (isName (kl s))).1 = 0 := by simpa using hr
  have hgd := beg_good hr
  cases hg : getF (kl s) (D.beg (isName (kl s))).2.L with
  | none =>
    rw [sync_n hr hg]
    have B := reach_none hA ho hs (isName (kl s)) hr hg
    clear hA hgd hr hg
    generalize (D.beg (isName (kl s))).2 = r at *
    generalize isName (kl s) = good at *
    go_enter Tryz.func56, Tryz.ntmps56
    go_wp2_with fail
    refine N1.mono ?_
    rintro e w' ⟨rfl, rfl⟩
    go_wp2_with fail
    refine B.mono ?_
    rintro e w2 ⟨rfl, h2, g2⟩
    clear N1 B
    go_wp2
    go_ret
    exact ⟨rfl, G, h2, by rw [HL.out]; exact g0.trans g2⟩
  | some f =>
    have B := reach_some hA ho hs (isName (kl s)) hr hg
    clear hA
    obtain ⟨hf, hn⟩ := get_some hg
    rw [sync_s hr hg]
    clear hgd hr hg
    generalize (D.beg (isName (kl s))).2 = r at *
    have FIN : ∀ w2, DiskAt w2 p m G r → Goes w w2 (zone p m G D.L) (zone p m G D.L) → Post w (w2.setCell ⟨(G f.nm).1, 1, none⟩ (.int .i64 (f.bs.length : Int))) p m G D { r with L := updF (kl s) ⟨kl s, f.bs, f.bs.length⟩ r.L } := by
      intro w2 h2 g2
      have hF := h2.file f hf
      rw [← hn]
      have k := h2.setFile (w' := w2.setCell ⟨(G f.nm).1, 1, none⟩ (.int .i64 (f.bs.length : Int))) hf (g := ⟨f.nm, f.bs, f.bs.length⟩) (v := (G f.nm).2) rfl (h2.ok.upd hf rfl (Nat.le_refl _) (by have := h2.ok.used; simp; omega))
        ⟨heap_set _ _ _ _ _ _ _ hF.st, row_same hF.row fun b hb => Below.heap_setCell _ _ _ _ fun e => h2.gr hf hf hb e.symm⟩ (fun b _ hb _ => Below.heap_setCell _ _ _ _ hb) (fun b hb => .inl hb)
      have z := zone_setFile h2 hf (g := ⟨f.nm, f.bs, f.bs.length⟩) (v := (G f.nm).2) rfl (fun b hb => .inl hb)
      refine ⟨_, k, g2.trans ⟨rfl, rfl, rfl, by simp, fun b hb hz => Below.heap_setCell _ _ _ _ fun e => hz (.inr (.inr ⟨f, by rw [← HL.out]; exact hf, .inl e⟩)), fun b hb => ?_⟩⟩
      have := z b hb
      rw [HL.out] at this
      exact this
    have FH := Lib.hid FIN
    have CE : ∀ w2, DiskAt w2 p m G r → ∃ o cap, w2.cell? ⟨(G f.nm).1, 0, none⟩ = some (.slice o f.bs.length cap) ∧ w2.cell? ⟨(G f.nm).1, 1, none⟩ = some (.int .i64 (f.sf : Int)) ∧ w2.frozen? ⟨(G f.nm).1, 1, none⟩ = false := by
      intro w2 h2
      have hF := h2.file f hf
      obtain ⟨o, cap, e1, _⟩ := hF.row.form
      have c0 := hF.cell0
      rw [e1] at c0
      exact ⟨o, cap, c0, hF.cell1, hF.frozen 1⟩
    have CH := Lib.hid CE
    clear FIN CE hf hn
    generalize (G f.nm).1 = gb at *
    generalize f.bs.length = n at *
    generalize isName (kl s) = good at *
    go_enter Tryz.func56, Tryz.ntmps56
    go_wp2_with fail
    refine N1.mono ?_
    rintro e w' ⟨rfl, rfl⟩
    go_wp2_with fail
    refine B.mono ?_
    rintro e w2 ⟨rfl, h2, g2⟩
    clear N1 B
    obtain ⟨o, cap, c0, c1, f1⟩ := CH.out w2 h2
    have F2 := Lib.hid (FH.out w2 h2 (g0.trans g2))
    clear h2 g2 g0 FH CH
    go_wp2
    go_ret
    exact ⟨rfl, F2.out⟩
theorem append_r {nm a : Bs} (hr : (D.beg (isName nm)).1 ≠ 0) : D.append nm a = D.beg (isName nm) := by
  unfold Dk.append
  simp only
  rw [if_pos hr]
theorem append_n {nm a : Bs} (hr : (D.beg (isName nm)).1 = 0) (hg : getF nm (D.beg (isName nm)).2.L = none) : D.append nm a = (7, (D.beg (isName nm)).2) := by
  unfold Dk.append
  simp only
  rw [if_neg (by simpa using hr), hg]
theorem append_f {nm a : Bs} (hr : (D.beg (isName nm)).1 = 0) {f : Fi} (hg : getF nm (D.beg (isName nm)).2.L = some f) (hc : (D.beg (isName nm)).2.room < (usedF (D.beg (isName nm)).2.L : Int) + (a.length : Int)) : D.append nm a = (6, (D.beg (isName nm)).2) := by
  unfold Dk.append
  simp only
  rw [if_neg (by simpa using hr), hg]
  simp only
  rw [if_pos hc]
theorem append_o {nm a : Bs} (hr : (D.beg (isName nm)).1 = 0) {f : Fi} (hg : getF nm (D.beg (isName nm)).2.L = some f) (hc : ¬ (D.beg (isName nm)).2.room < (usedF (D.beg (isName nm)).2.L : Int) + (a.length : Int)) : D.append nm a = (0, { (D.beg (isName nm)).2 with L := updF nm ⟨nm, f.bs ++ a, f.sf⟩ (D.beg (isName nm)).2.L }) := by
  unfold Dk.append
  simp only
  rw [if_neg (by simpa using hr), hg]
  simp only
  rw [if_neg hc]
theorem wpl_append {ops : Array Oper} {rest : List Oper} {o : Oper} {a : Act} {Q : Exit → Act → World → Prop} {v : Value} {bs : Bs} (h : RowB w v bs) {s : ByteArray} (hb : bs.length + s.size ≤ 1099511627776) (hgd : o.guard = none) (sl x : Operand)
    (hop : o.op = .call { callee := .builtin .append, args := #[sl, x], argTypes := #[87, 9] }) (hs : a.eval sl = v) (hx : a.eval x = .string s)
    (hK : ∀ o' cap' w', RowB w' (.slice o' (bs.length + s.size) cap') (bs ++ kl s) → w.grownBy w' v.ownBlock → (∀ b, Value.ownBlock (.slice o' (bs.length + s.size) cap') = some b → v.ownBlock = some b ∨ w.heap.size ≤ b) → wpList Tryz.prog ops Q rest (a.put o.dst (.slice o' (bs.length + s.size) cap')) w') :
    wpList Tryz.prog ops Q (o :: rest) a w := by
  refine wpList_plain hgd fun K hK' => ?_
  obtain ⟨v', w', hr, h2, h3, h4⟩ := h.append s hb o.type
  obtain ⟨o', cap', rfl, _⟩ := h2.form
  rw [List.length_append, kl_len] at hr h2 h4
  unfold Oper.wp execOp
  simp only [hop, resolve, invoke, builtin, Sem.run_bind, Sem.run_pure, Result.andThen_ok, List.map_toArray, List.map_cons, List.map_nil, hs, hx, hr]
  refine hK' _ _ (hK o' cap' w' h2 h3 fun b hb => ?_)
  rcases h4 with e | e
  · exact .inl (by rw [← e]; exact hb)
  · rw [e] at hb
    exact .inr (Nat.le_of_eq (Option.some.inj hb))
set_option maxRecDepth 100000 in
set_option maxHeartbeats 2000000 in
theorem append_any (h : DiskAt w p m G D) (ho : D.ops ≤ 1099511627776) {s t : ByteArray} (hs : s.size ≤ 9223372036854775807) (ht : t.size ≤ 1099511627) :
    Calls Tryz.prog 19 #[.pointer (some ⟨p, 0, none⟩), .string s, .string t] w fun e w' => e = .returned (.int .i64 (D.append (kl s) (kl t)).1) ∧ Post w w' p m G D (D.append (kl s) (kl t)).2 := by
  have N1 := name_one w hs
  have hA := h.alloc (.cells #[.string s] 9)
  have g0 := Goes.alloc w (.cells #[.string s] 9) (zone p m G D.L)
  have HL := Lib.hid (beg_L D (isName (kl s))).1
  clear h
  by_cases hr : (D.beg (isName (kl s))).1 ≠ 0
  · rw [append_r hr]
    have B := reach_no hA ho hs (isName (kl s)) hr
    clear hA
    generalize D.beg (isName (kl s)) = r at *
    obtain ⟨r1, r2⟩ := r
    simp only at hr B HL ⊢
    generalize isName (kl s) = good at *
    go_enter Tryz.func19, Tryz.ntmps19
    go_wp2_with fail
    refine N1.mono ?_
    rintro e w' ⟨rfl, rfl⟩
    go_wp2_with fail
    refine B.mono ?_
    rintro e w2 ⟨rfl, h2, g2⟩
    clear N1 B
    go_wp2
    go_ret
    exact ⟨rfl, G, h2, by rw [HL.out]; exact g0.trans g2⟩
  have hr : (D.beg (isName (kl s))).1 = 0 := by simpa using hr
  have hgd := beg_good hr
  cases hg : getF (kl s) (D.beg (isName (kl s))).2.L with
  | none =>
    rw [append_n hr hg]
    have B := reach_none hA ho hs (isName (kl s)) hr hg
    clear hA hgd hr hg
    generalize (D.beg (isName (kl s))).2 = r at *
    generalize isName (kl s) = good at *
    go_enter Tryz.func19, Tryz.ntmps19
    go_wp2_with fail
    refine N1.mono ?_
    rintro e w' ⟨rfl, rfl⟩
    go_wp2_with fail
    refine B.mono ?_
    rintro e w2 ⟨rfl, h2, g2⟩
    clear N1 B
    go_wp2
    go_ret
    exact ⟨rfl, G, h2, by rw [HL.out]; exact g0.trans g2⟩
  | some f =>
    have B := reach_some hA ho hs (isName (kl s)) hr hg
    clear hA
    obtain ⟨hf, hn⟩ := get_some hg
    have US := Lib.hid fun w' (h' : DiskAt w' p m G (D.beg (isName (kl s))).2) => used_any h'
    have R0 : ∀ w', DiskAt w' p m G (D.beg (isName (kl s))).2 → w'.cell? ⟨p, 0, none⟩ = some (.int .i64 (D.beg (isName (kl s))).2.room) := fun w' h' => by
      have := h'.cell 0
      simpa [headV] using this
    have R0' := Lib.hid R0
    clear R0
    have hkt := kl_len t
    by_cases hc : (D.beg (isName (kl s))).2.room < (usedF (D.beg (isName (kl s))).2.L : Int) + ((kl t).length : Int)
    · rw [append_f hr hg hc]
      rw [hkt] at hc
      clear hgd hr hg hkt
      generalize (D.beg (isName (kl s))).2 = r at *
      have us : ∀ w', DiskAt w' p m G r → usedF r.L ≤ 4194304 := fun w' h' => used_small h'
      have USM := Lib.hid us
      clear us hf hn
      generalize (G f.nm).1 = gb at *
      generalize isName (kl s) = good at *
      go_enter Tryz.func19, Tryz.ntmps19
      go_wp2_with fail
      refine N1.mono ?_
      rintro e w' ⟨rfl, rfl⟩
      go_wp2_with fail
      refine B.mono ?_
      rintro e w2 ⟨rfl, h2, g2⟩
      clear N1 B
      have us := USM.out w2 h2
      have j0 : DiskAt w2.drew p m G r ∧ Goes w w2.drew (zone p m G D.L) (zone p m G D.L) := ⟨h2.drewN 1, (g0.trans g2).trans (Goes.drewN w2 1 _)⟩
      clear h2 g2 g0 USM
      have q1 : IntKind.i64.wrap ((usedF r.L : Int) + (t.size : Int)) = (usedF r.L : Int) + (t.size : Int) := IntWalk.i64_in _ (by omega)
      go_upto_region 4 with (fail)
      refine wp_region_held (S := fun x => DiskAt x p m G r ∧ Goes w x (zone p m G D.L) (zone p m G D.L)) (by kernel_rfl) ?_
      change wpAnyH _ _ _ _ _ _ _ _ w2.drew
      generalize w2.drew = w2' at j0 ⊢
      refine held_take 0 (.pointer (some ⟨p, 0, none⟩)) rfl (by kernel_rfl) (by kernel_rfl) (by kernel_rfl) (fun _ _ _ h => h) (Or.inl ⟨by rfl, fun x j => by go_simp⟩) j0 (fun K hK => ?_)
      go_simp
      refine hK _ _ ?_
      clear hK K
      refine held_take 2 (.string t) rfl (by kernel_rfl) (by kernel_rfl) (by kernel_rfl) (fun _ _ _ h => h) (Or.inl ⟨by rfl, fun x j => by go_simp⟩) j0 (fun K hK => ?_)
      go_simp
      refine hK _ _ ?_
      clear hK K
      refine held_take 3 (.int .i64 (t.size : Int)) rfl (by kernel_rfl) (by kernel_rfl) (by kernel_rfl) (fun _ _ _ h => h) (Or.inl ⟨by rfl, fun x j => by go_simp⟩) j0 (fun K hK => ?_)
      go_simp
      refine hK _ _ ?_
      clear hK K
      refine held_take 5 (.pointer (some ⟨p, 0, none⟩)) rfl (by kernel_rfl) (by kernel_rfl) (by kernel_rfl) (fun _ _ _ h => h) (Or.inl ⟨by rfl, fun x j => by go_simp⟩) j0 (fun K hK => ?_)
      go_simp
      refine hK _ _ ?_
      clear hK K
      refine held_take 6 (.pointer (some ⟨p, 0, none⟩)) rfl (by kernel_rfl) (by kernel_rfl) (by kernel_rfl) (fun _ _ _ h => h) (Or.inl ⟨by rfl, fun x j => by go_simp⟩) j0 (fun K hK => ?_)
      go_simp
      refine hK _ _ ?_
      clear hK K
      refine held_take 7 (.pointer (some ⟨p, 0, none⟩)) rfl (by kernel_rfl) (by kernel_rfl) (by kernel_rfl) (fun _ _ _ h => h) (Or.inl ⟨by rfl, fun x j => by go_simp⟩) j0 (fun K hK => ?_)
      go_simp
      refine hK _ _ ?_
      clear hK K
      refine held_take 8 (.int .i64 r.room) rfl (by kernel_rfl) (by kernel_rfl) (by kernel_rfl) (fun _ _ _ h => h) (Or.inl ⟨by rfl, fun x j => by have c0 := R0'.out x j.1; go_simp⟩) j0 (fun K hK => ?_)
      go_simp
      refine hK _ _ ?_
      clear hK K
      refine held_one 1 (by kernel_rfl) (fun K hK => wpOp_in rfl rfl ?_)
      go_simp
      refine (US.out _ j0.1).mono ?_
      rintro e w3 ⟨rfl, hb3⟩
      have J1 : DiskAt w3 p m G r ∧ Goes w w3 (zone p m G D.L) (zone p m G D.L) := ⟨j0.1.kept fun b hb => hb3.block b (j0.1.lt hb), j0.2.trans (Goes.of_below hb3 _)⟩
      clear hb3
      refine hK _ _ J1 ?_
      clear hK K j0
      refine held_take 4 (.int .i64 ((usedF r.L : Int) + (t.size : Int))) rfl (by kernel_rfl) (by kernel_rfl) (by kernel_rfl) (fun _ _ _ h => h) (Or.inl ⟨by rfl, fun x j => by go_simp⟩) J1 (fun K hK => ?_)
      go_simp
      refine hK _ _ ?_
      clear hK K
      refine held_take 9 (.bool true) rfl (by kernel_rfl) (by kernel_rfl) (by kernel_rfl) (fun _ _ _ h => h) (Or.inl ⟨by rfl, fun x j => by go_simp⟩) J1 (fun K hK => ?_)
      go_simp
      refine hK _ _ ?_
      clear hK K
      refine wpAnyH_done (by kernel_rfl) ?_ _
      go_wp2
      go_ret
      exact ⟨rfl, G, J1.1, by rw [HL.out]; exact J1.2⟩
    · rw [append_o hr hg hc]
      rw [hkt] at hc
      clear hgd hr hg
      generalize (D.beg (isName (kl s))).2 = r at *
      have us : ∀ w', DiskAt w' p m G r → usedF r.L ≤ 4194304 := fun w' h' => used_small h'
      have USM := Lib.hid us
      have BL := Lib.hid (mem_used hf)
      have FIN : ∀ w3, DiskAt w3 p m G r → Goes w w3 (zone p m G D.L) (zone p m G D.L) → ∀ o' cap' w4, RowB w4 (.slice o' (f.bs.length + t.size) cap') (f.bs ++ kl t) → w3.grownBy w4 (G f.nm).2.ownBlock → (∀ b, Value.ownBlock (.slice o' (f.bs.length + t.size) cap') = some b → (G f.nm).2.ownBlock = some b ∨ w3.heap.size ≤ b) →
          Post w (w4.setCell ⟨(G f.nm).1, 0, none⟩ (.slice o' (f.bs.length + t.size) cap')) p m G D { r with L := updF (kl s) ⟨kl s, f.bs ++ kl t, f.sf⟩ r.L } := by
        intro w3 h3 g3 o' cap' w4 hr4 hg4 hv4
        have hF := h3.file f hf
        rw [← hn]
        have hst : w4.heap[(G f.nm).1]? = some (.cells #[(G f.nm).2, .int .i64 (f.sf : Int)] 89 (0, 0)) := (hg4.block _ (in_heap hF.st) fun e => h3.gr hf hf e.symm rfl).trans hF.st
        have k := h3.setFile (w' := w4.setCell ⟨(G f.nm).1, 0, none⟩ (.slice o' (f.bs.length + t.size) cap')) hf (g := ⟨f.nm, f.bs ++ kl t, f.sf⟩) (v := .slice o' (f.bs.length + t.size) cap') rfl (h3.ok.upd hf rfl (by have := h3.ok.safe f hf; simp; omega) (by simp [hkt]; omega))
          ⟨heap_set _ _ _ _ _ _ _ hst, row_same hr4 fun b hb => Below.heap_setCell _ _ _ _ fun e => by
            rcases hv4 b hb with c | c
            · exact h3.gr hf hf c e.symm
            · have := in_heap hF.st
              simp at e
              omega⟩ (fun b hb hne hne' => (Below.heap_setCell _ _ _ _ hne).trans (hg4.block b hb fun e => hne' e.symm)) hv4
        have z := zone_setFile h3 hf (g := ⟨f.nm, f.bs ++ kl t, f.sf⟩) (v := .slice o' (f.bs.length + t.size) cap') rfl hv4
        refine ⟨_, k, g3.trans ⟨hg4.os, hg4.tape, hg4.output, by simpa using hg4.size, fun b hb hz => (Below.heap_setCell _ _ _ _ fun e => hz (.inr (.inr ⟨f, by rw [← HL.out]; exact hf, .inl e⟩))).trans (hg4.block b hb fun e => hz (.inr (.inr ⟨f, by rw [← HL.out]; exact hf, .inr e.symm⟩))), fun b hb => ?_⟩⟩
        have := z b hb
        rw [HL.out] at this
        exact this
      have FH := Lib.hid FIN
      have CE : ∀ w3, DiskAt w3 p m G r → ∃ o cap, w3.cell? ⟨(G f.nm).1, 0, none⟩ = some (.slice o f.bs.length cap) ∧ w3.frozen? ⟨(G f.nm).1, 0, none⟩ = false ∧ RowB w3 (.slice o f.bs.length cap) f.bs ∧ (G f.nm).2 = .slice o f.bs.length cap ∧ (G f.nm).1 < w3.heap.size ∧ some (G f.nm).1 ≠ (G f.nm).2.ownBlock := by
        intro w3 h3
        have hF := h3.file f hf
        obtain ⟨o, cap, e1, _⟩ := hF.row.form
        have c0 := hF.cell0
        have rw := hF.row
        rw [e1] at c0 rw
        exact ⟨o, cap, c0, hF.frozen 0, rw, e1, in_heap hF.st, fun e => h3.gr hf hf e.symm rfl⟩
      have CH := Lib.hid CE
      clear FIN CE hf hn us hkt
      generalize (G f.nm) = gv at *
      obtain ⟨gb, vv⟩ := gv
      simp only at FH CH B
      generalize isName (kl s) = good at *
      go_enter Tryz.func19, Tryz.ntmps19
      go_wp2_with fail
      refine N1.mono ?_
      rintro e w' ⟨rfl, rfl⟩
      go_wp2_with fail
      refine B.mono ?_
      rintro e w2 ⟨rfl, h2, g2⟩
      clear N1 B
      have us := USM.out w2 h2
      have j0 : DiskAt w2.drew p m G r ∧ Goes w w2.drew (zone p m G D.L) (zone p m G D.L) := ⟨h2.drewN 1, (g0.trans g2).trans (Goes.drewN w2 1 _)⟩
      clear h2 g2 g0 USM
      have q1 : IntKind.i64.wrap ((usedF r.L : Int) + (t.size : Int)) = (usedF r.L : Int) + (t.size : Int) := IntWalk.i64_in _ (by omega)
      go_upto_region 4 with (fail)
      refine wp_region_held (S := fun x => DiskAt x p m G r ∧ Goes w x (zone p m G D.L) (zone p m G D.L)) (by kernel_rfl) ?_
      change wpAnyH _ _ _ _ _ _ _ _ w2.drew
      generalize w2.drew = w2' at j0 ⊢
      refine held_take 0 (.pointer (some ⟨p, 0, none⟩)) rfl (by kernel_rfl) (by kernel_rfl) (by kernel_rfl) (fun _ _ _ h => h) (Or.inl ⟨by rfl, fun x j => by go_simp⟩) j0 (fun K hK => ?_)
      go_simp
      refine hK _ _ ?_
      clear hK K
      refine held_take 2 (.string t) rfl (by kernel_rfl) (by kernel_rfl) (by kernel_rfl) (fun _ _ _ h => h) (Or.inl ⟨by rfl, fun x j => by go_simp⟩) j0 (fun K hK => ?_)
      go_simp
      refine hK _ _ ?_
      clear hK K
      refine held_take 3 (.int .i64 (t.size : Int)) rfl (by kernel_rfl) (by kernel_rfl) (by kernel_rfl) (fun _ _ _ h => h) (Or.inl ⟨by rfl, fun x j => by go_simp⟩) j0 (fun K hK => ?_)
      go_simp
      refine hK _ _ ?_
      clear hK K
      refine held_take 5 (.pointer (some ⟨p, 0, none⟩)) rfl (by kernel_rfl) (by kernel_rfl) (by kernel_rfl) (fun _ _ _ h => h) (Or.inl ⟨by rfl, fun x j => by go_simp⟩) j0 (fun K hK => ?_)
      go_simp
      refine hK _ _ ?_
      clear hK K
      refine held_take 6 (.pointer (some ⟨p, 0, none⟩)) rfl (by kernel_rfl) (by kernel_rfl) (by kernel_rfl) (fun _ _ _ h => h) (Or.inl ⟨by rfl, fun x j => by go_simp⟩) j0 (fun K hK => ?_)
      go_simp
      refine hK _ _ ?_
      clear hK K
      refine held_take 7 (.pointer (some ⟨p, 0, none⟩)) rfl (by kernel_rfl) (by kernel_rfl) (by kernel_rfl) (fun _ _ _ h => h) (Or.inl ⟨by rfl, fun x j => by go_simp⟩) j0 (fun K hK => ?_)
      go_simp
      refine hK _ _ ?_
      clear hK K
      refine held_take 8 (.int .i64 r.room) rfl (by kernel_rfl) (by kernel_rfl) (by kernel_rfl) (fun _ _ _ h => h) (Or.inl ⟨by rfl, fun x j => by have c0 := R0'.out x j.1; go_simp⟩) j0 (fun K hK => ?_)
      go_simp
      refine hK _ _ ?_
      clear hK K
      refine held_one 1 (by kernel_rfl) (fun K hK => wpOp_in rfl rfl ?_)
      go_simp
      refine (US.out _ j0.1).mono ?_
      rintro e w3 ⟨rfl, hb3⟩
      have J1 : DiskAt w3 p m G r ∧ Goes w w3 (zone p m G D.L) (zone p m G D.L) := ⟨j0.1.kept fun b hb => hb3.block b (j0.1.lt hb), j0.2.trans (Goes.of_below hb3 _)⟩
      clear hb3
      refine hK _ _ J1 ?_
      clear hK K j0
      refine held_take 4 (.int .i64 ((usedF r.L : Int) + (t.size : Int))) rfl (by kernel_rfl) (by kernel_rfl) (by kernel_rfl) (fun _ _ _ h => h) (Or.inl ⟨by rfl, fun x j => by go_simp⟩) J1 (fun K hK => ?_)
      go_simp
      refine hK _ _ ?_
      clear hK K
      refine held_take 9 (.bool false) rfl (by kernel_rfl) (by kernel_rfl) (by kernel_rfl) (fun _ _ _ h => h) (Or.inl ⟨by rfl, fun x j => by go_simp⟩) J1 (fun K hK => ?_)
      go_simp
      refine hK _ _ ?_
      clear hK K
      refine wpAnyH_done (by kernel_rfl) ?_ _
      obtain ⟨o1, cap1, c0, f0, rw0, rfl, lt0, ne0⟩ := CH.out w3 J1.1
      have bl := BL.out
      have F2 := Lib.hid (FH.out w3 J1.1 J1.2)
      clear CH FH J1 BL
      go_wp2_with (first | (at_builtin; refine wpl_append rw0 (by omega) rfl _ _ rfl rfl rfl ?_; intro o2 cap2 w4 hr4 hg4 hv4; have c4 := (World.cell?_of_block (a := ⟨gb, 0, none⟩) (hg4.block gb lt0 ne0)).trans c0; have f4 := (World.frozen?_of_block (a := ⟨gb, 0, none⟩) (hg4.block gb lt0 ne0)).trans f0))
      go_ret
      exact ⟨rfl, F2.out o2 cap2 w4 hr4 hg4 hv4⟩
end
end Go.Proofs.YtdmgobffhpgjlaaGreat.Pk
