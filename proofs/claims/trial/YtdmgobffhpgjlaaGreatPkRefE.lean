/-
  The document's On.
-/
import Derived.Test.YtdmgobffhpgjlaaGreatPkRefD
namespace Go.Proofs.YtdmgobffhpgjlaaGreat.Pk
open Go.RowKit Go.PlainAid Go.Maps
set_option linter.unusedVariables false
set_option maxRecDepth 20000
set_option linter.unusedSimpArgs false

/-- a file in its variable, turned, beside the row that is made -/
theorem box_turned {w1 wr Y : World} {x : Value} {out : List Fi} {f : Fi} {N : Nat} (hN : N ≤ wr.heap.size) (hown : wr.ownsRow 0 65 3 x out.length (rowF out)) (hb : Below N w1 wr) (hY : Y.heap[wr.heap.size]? = some (.cells #[.string (nmB f.nm), .string (nmB f.bs), .int .i64 (f.sf : Int)] 65 (0, 0))) (bY : Below wr.heap.size wr Y) (s : ByteArray) (n : Int) :
    (Loads Tryz.prog ((Y.setCell ⟨wr.heap.size, 1, none⟩ (.string s)).setCell ⟨wr.heap.size, 2, none⟩ (.int .i64 n)) 65 wr.heap.size 0 #[.string (nmB f.nm), .string s, .int .i64 n] ∧ ((Y.setCell ⟨wr.heap.size, 1, none⟩ (.string s)).setCell ⟨wr.heap.size, 2, none⟩ (.int .i64 n)).ownsRow 0 65 3 x out.length (rowF out) ∧ Below N w1 ((Y.setCell ⟨wr.heap.size, 1, none⟩ (.string s)).setCell ⟨wr.heap.size, 2, none⟩ (.int .i64 n))) ∧
    (Loads Tryz.prog (Y.setCell ⟨wr.heap.size, 2, none⟩ (.int .i64 n)) 65 wr.heap.size 0 #[.string (nmB f.nm), .string (nmB f.bs), .int .i64 n] ∧ (Y.setCell ⟨wr.heap.size, 2, none⟩ (.int .i64 n)).ownsRow 0 65 3 x out.length (rowF out) ∧ Below N w1 (Y.setCell ⟨wr.heap.size, 2, none⟩ (.int .i64 n))) ∧
    (Y.setCell ⟨wr.heap.size, 1, none⟩ (.string s)).cell? ⟨wr.heap.size, 1, none⟩ = some (.string s) ∧ (Y.setCell ⟨wr.heap.size, 1, none⟩ (.string s)).cell? ⟨wr.heap.size, 2, none⟩ = some (.int .i64 (f.sf : Int)) ∧ (Y.setCell ⟨wr.heap.size, 1, none⟩ (.string s)).frozen? ⟨wr.heap.size, 2, none⟩ = false := by
  have h1 := heap_set Y wr.heap.size 1 (.string s) _ _ _ hY
  have h2 := heap_set _ wr.heap.size 2 (.int .i64 n) _ _ _ h1
  have h3 := heap_set Y wr.heap.size 2 (.int .i64 n) _ _ _ hY
  have ob : ∀ b, x.ownBlock = some b → b < wr.heap.size := fun b hb' => by
    obtain ⟨cur, hc⟩ := orow_block hown hb'
    exact in_heap hc
  have Bt : Below N w1 Y := hb.trans ⟨bY.os, bY.tape, bY.output, bY.size, fun b h => bY.block b (by omega)⟩
  have st : ∀ (Z : World) (j : Nat) (y : Value), Below N w1 Z → Below N w1 (Z.setCell ⟨wr.heap.size, j, none⟩ y) := fun Z j y h => h.trans ⟨rfl, rfl, rfl, by simp, fun b hb' => Below.heap_setCell _ _ _ _ (by simp; omega)⟩
  have oY := orow_same hown fun b hb' => bY.block b (ob b hb')
  have so : ∀ (Z : World) (j : Nat) (y : Value), Z.ownsRow 0 65 3 x out.length (rowF out) → (Z.setCell ⟨wr.heap.size, j, none⟩ y).ownsRow 0 65 3 x out.length (rowF out) := fun Z j y h => orow_same h fun b hb' => Below.heap_setCell _ _ _ _ (by have := ob b hb'; simp; omega)
  refine ⟨⟨fi_loads (by simpa using h2), so _ _ _ (so _ _ _ oY), st _ _ _ (st _ _ _ Bt)⟩, ⟨fi_loads (by simpa using h3), so _ _ _ oY, st _ _ _ Bt⟩, ?_, ?_, frozen_of_row _ _ _ _ _ h1⟩
  · rw [cell_of_row _ _ _ _ _ _ h1]; simp
  · rw [cell_of_row _ _ _ _ _ _ h1]; simp
/-- where the loop stands: k numbers are taken, out is made of the files ahead of i -/
structure ROnAt (w1 wr : World) (D : Dk) (ks : List Int) (x : Value) (k i : Nat) : Prop where
  is : ∃ out : List Fi, wr.ownsRow 0 65 3 x out.length (rowF out) ∧ (∀ b, x.ownBlock = some b → w1.heap.size ≤ b) ∧ Below w1.heap.size w1 wr ∧ out.length = i ∧ k ≤ i ∧ onL ks D.L = out ++ onL (ks.drop k) (D.L.drop i)
theorem on_step_same {ks : List Int} {L out : List Fi} {k i : Nat} {f : Fi} (hf : L[i]? = some f) (hs : f.sf = f.bs.length) (h : onL ks L = out ++ onL (ks.drop k) (L.drop i)) : onL ks L = out ++ [⟨f.nm, f.bs, f.bs.length⟩] ++ onL (ks.drop k) (L.drop (i + 1)) := by
  have hi := (List.getElem?_eq_some_iff.1 hf).1
  have e : L.drop i = f :: L.drop (i + 1) := by rw [List.drop_eq_getElem_cons hi]; congr 1; exact (List.getElem?_eq_some_iff.1 hf).2
  rw [h, e, onL_same hs, ← hs]
  simp
theorem on_step_none {ks : List Int} {L out : List Fi} {k i : Nat} {f : Fi} (hf : L[i]? = some f) (hs : f.sf ≠ f.bs.length) (hk : ks.length ≤ k) (h : onL ks L = out ++ onL (ks.drop k) (L.drop i)) : onL ks L = out ++ [⟨f.nm, f.bs.take f.sf, f.sf⟩] ++ onL (ks.drop (k + 1)) (L.drop (i + 1)) := by
  have hi := (List.getElem?_eq_some_iff.1 hf).1
  have e : L.drop i = f :: L.drop (i + 1) := by rw [List.drop_eq_getElem_cons hi]; congr 1; exact (List.getElem?_eq_some_iff.1 hf).2
  rw [h, e, List.drop_of_length_le hk, show ks.drop (k + 1) = [] from List.drop_of_length_le (by omega), onL_none hs]
  simp
theorem on_step_some {ks : List Int} {L out : List Fi} {k i : Nat} {f : Fi} {x : Int} (hf : L[i]? = some f) (hs : f.sf ≠ f.bs.length) (hk : ks[k]? = some x) (h : onL ks L = out ++ onL (ks.drop k) (L.drop i)) : onL ks L = out ++ [⟨f.nm, f.bs.take (f.sf + (max x 0).toNat % (f.bs.length - f.sf + 1)), f.sf + (max x 0).toNat % (f.bs.length - f.sf + 1)⟩] ++ onL (ks.drop (k + 1)) (L.drop (i + 1)) := by
  have hi := (List.getElem?_eq_some_iff.1 hf).1
  have hj := (List.getElem?_eq_some_iff.1 hk).1
  have e : L.drop i = f :: L.drop (i + 1) := by rw [List.drop_eq_getElem_cons hi]; congr 1; exact (List.getElem?_eq_some_iff.1 hf).2
  have e2 : ks.drop k = x :: ks.drop (k + 1) := by rw [List.drop_eq_getElem_cons hj]; congr 1; exact (List.getElem?_eq_some_iff.1 hk).2
  rw [h, e, e2, onL_some hs]
  simp
section
variable {w w' : World} {u : Nat} {v : Value} {a mo : Int} {D : Dk}
theorem ron_no (h : RefAt w u v a mo D) (hoff : D.off = false) (kv : Value) :
    Calls Tryz.prog 16 #[.pointer (some ⟨u, 0, none⟩), kv] w fun e w' => e = .returned (.tuple #[]) ∧ w = w' := by
  have c6 := h.cell 6
  simp [refV, hoff] at c6
  clear h hoff
  go_enter Tryz.func16, Tryz.ntmps16
  go_wp2
  exact bodyPost_ret (v := .tuple #[]) (by simp [results, Tryz.results16, go_sem]) rfl ⟨rfl, rfl⟩
set_option maxRecDepth 100000 in
set_option maxHeartbeats 4000000 in
theorem ron_yes (h : RefAt w u v a mo D) (hoff : D.off = true) {kv : Value} {ks : List Int} (hk : KeepAt w (rzone u v) kv ks) (hkl : ks.length ≤ 1099511627776) (hkm : ∀ x ∈ ks, x ≤ 9223372036854775807) (ok2 : { D with off := false, L := onL ks D.L }.Ok) :
    Calls Tryz.prog 16 #[.pointer (some ⟨u, 0, none⟩), kv] w fun e w' => e = .returned (.tuple #[]) ∧ RPost w w' u v { D with off := false, L := onL ks D.L } := by
  have c6 := h.cell 6
  have f6 := h.frozen 6
  simp [refV, hoff] at c6
  have cn := h.ok.cnt
  have ok1 : { D with off := false }.Ok := ⟨h.ok.room0, h.ok.room1, h.ok.ops0, h.ok.kd, h.ok.fa0, h.ok.fa1, h.ok.fm0, h.ok.fm1, h.ok.up, h.ok.names, h.ok.safe, h.ok.used, h.ok.cnt⟩
  have g1 : Goes w (w.setCell ⟨u, 6, none⟩ (.bool false)) (rzone u v) (rzone u v) := Goes.of_set rfl (.inl rfl)
  have R1 : RefAt (w.setCell ⟨u, 6, none⟩ (.bool false)) u v a mo { D with off := false } := by
    refine ⟨?_, orow_same h.row fun b hb => Below.heap_setCell _ _ _ _ (by have := h.ur hb; simp; omega), h.arm, h.a0, h.a1, h.m1, ok1⟩
    rw [heap_set _ _ _ _ _ _ _ h.head]
    simp [refV, hoff]
  have k1 := hk.moved g1 fun _ z => z
  obtain ⟨kb, kc, rfl, _⟩ := hk
  obtain ⟨o, cap, ev, _⟩ := h.form
  have sf := h.ok.safe
  have us := h.ok.used
  have ro := h.ok.room1
  generalize hw1 : w.setCell ⟨u, 6, none⟩ (.bool false) = w1 at *
  have KP : ∀ w2, Below w1.heap.size w1 w2 → RefAt w2 u v a mo { D with off := false } := fun w2 hb => R1.kept fun b z => hb.block b (R1.lt z)
  have KK : ∀ w2, Below w1.heap.size w1 w2 → ∀ j y, ks[j]? = some y → ∃ ad : Addr, kb = some ad ∧ w2.cell? (ad.add j) = some (.int .i64 y) := fun w2 hb j y hj => by
    obtain ⟨base, cap', e, _, hc⟩ := k1
    injection e with e _ _
    obtain ⟨ad, ea, h1, _, h3⟩ := hc j y hj
    exact ⟨ad, by rw [e]; exact ea, by rw [hb.cell (by rw [add_block]; exact h1)]; exact h3⟩
  have FIN : ∀ wr x, Below w1.heap.size w1 wr → wr.ownsRow 0 65 3 x (onL ks D.L).length (rowF (onL ks D.L)) → (∀ b, x.ownBlock = some b → w1.heap.size ≤ b) → RPost w (wr.setCell ⟨u, 0, none⟩ x) u v { D with off := false, L := onL ks D.L } := fun wr x hb hr hx => (R1.setRow hb hr hx ok2).next g1
  have FH := Lib.hid FIN
  have KH := Lib.hid KP
  have KKH := Lib.hid KK
  have S0 : ROnAt w1 (w1.alloc (.cells #[] 65)) D ks (.slice (some ⟨w1.heap.size, 0, none⟩) 0 0) 0 0 :=
    ⟨[], World.ownsRow_made w1 #[] 0 (Nat.zero_le _) (by unfold maxLen; omega) rfl, by simp [Value.ownBlock], (Below.refl _ _).alloc (Nat.le_refl _) _, rfl, Nat.le_refl _, by simp⟩
  have SH := Lib.hid S0
  have SF := Lib.hid sf
  have KM := Lib.hid hkm
  subst ev
  clear h R1 g1 ok1 ok2 k1 FIN KP KK S0 sf hoff hkm
  go_enter Tryz.func16, Tryz.ntmps16
  go_wp2_with fail
  clear c6 f6 hw1
  go_loopw [4, 5, 6] (fun kq x i wr => ∃ (k i' : Nat), i' ≤ D.L.length ∧ kq = .int .i64 k ∧ i = .int .i64 i' ∧ ROnAt w1 wr D ks x k i') (fun _ _ i _ => D.L.length - (intOf i).toNat)
  case atStart => exact ⟨0, 0, Nat.zero_le _, rfl, rfl, SH.out⟩
  case round =>
    obtain ⟨k, i, hi, rfl, rfl, PA⟩ := hrel
    clear SH
    obtain ⟨out, hown0, hx, hb0, ol, hki, eo⟩ := PA.is
    obtain ⟨ox, cx, rfl⟩ := orow_form hown0
    have R0 := KH.out wr hb0
    have c0 := R0.cell 0
    simp [refV] at c0
    clear PA
    have HO := Lib.hid hown0
    have HB := Lib.hid hb0
    have IV := Lib.hid eo
    have OL := Lib.hid ol
    have ob : out.length ≤ 200 := by omega
    clear hown0 hb0 eo ol
    by_cases hlt : i < D.L.length
    · have l1 : (i : Int) < (D.L.length : Int) := by omega
      obtain ⟨f, hf⟩ : ∃ f, D.L[i]? = some f := ⟨_, List.getElem?_eq_getElem hlt⟩
      have hfm := List.mem_of_getElem? hf
      have bl := Nat.le_trans (mem_used hfm) (show usedF D.L ≤ 4194304 by omega)
      have fs := SF.out f hfm
      obtain ⟨g, cap', e7, _, LA⟩ := R0.file (D := { D with off := false }) hf
      injection e7 with e7 _ _
      subst e7
      obtain ⟨Y, S, hY, bY⟩ := box_fi wr f
      have b1 := cell_of_row Y _ 1 _ _ _ hY
      have b2 := cell_of_row Y _ 2 _ _ _ hY
      have z1 := frozen_of_row Y _ 1 _ _ hY
      have z2 := frozen_of_row Y _ 2 _ _ hY
      simp at b1 b2
      have hz := zfi
      have sz := nmB_size f.bs
      clear R0 hfm
      have NXX := hf
      have q1 : IntKind.i64.wrap ((f.bs.length : Int) - (f.sf : Int)) = ((f.bs.length - f.sf : Nat) : Int) := by rw [IntWalk.i64_in _ (by omega)]; omega
      by_cases hs : f.sf = f.bs.length
      · have q2 : f.bs.length - f.sf = 0 := by omega
        rw [q2] at q1
        have NX := Lib.hid (on_step_same hf hs IV.out)
        obtain ⟨_, ⟨LB, hoT, hbT⟩, _⟩ := box_turned (f := f) HB.out.size HO.out HB.out hY bY ⟨#[]⟩ (f.bs.length : Int)
        have ZH := Lib.hid (show ((Y.setCell ⟨wr.heap.size, 2, none⟩ (.int .i64 (f.bs.length : Int))).alloc (.cells #[.string (nmB f.nm), .string (nmB f.bs), .int .i64 ((f.bs.length : Int))] 65)).ownsRow 0 65 3 _ out.length (rowF out) ∧ w1.heap.size ≤ ((Y.setCell ⟨wr.heap.size, 2, none⟩ (.int .i64 (f.bs.length : Int))).alloc (.cells #[.string (nmB f.nm), .string (nmB f.bs), .int .i64 ((f.bs.length : Int))] 65)).heap.size ∧ ∀ j y, (rowF [(⟨f.nm, f.bs, f.bs.length⟩ : Fi)])[j]? = some y → ((Y.setCell ⟨wr.heap.size, 2, none⟩ (.int .i64 (f.bs.length : Int))).alloc (.cells #[.string (nmB f.nm), .string (nmB f.bs), .int .i64 ((f.bs.length : Int))] 65)).cell? ((⟨Y.heap.size, 0, none⟩ : Addr).add j) = some y from
          ⟨hoT.alloc _, by refine Nat.le_trans hbT.size (by simp), fi_block (by have := heap_alloc_new (Y.setCell ⟨wr.heap.size, 2, none⟩ (.int .i64 (f.bs.length : Int))) (.cells #[.string (nmB f.nm), .string (nmB f.bs), .int .i64 ((f.bs.length : Int))] 65); rw [show (Y.setCell ⟨wr.heap.size, 2, none⟩ (.int .i64 (f.bs.length : Int))).heap.size = Y.heap.size by simp] at this; exact this)⟩)
        clear hoT hf NXX hY bY IV HO HB hs q2
        go_wp2_with (first | refine wpl_loadA LA rfl rfl rfl ?_ | refine wpl_store S rfl rfl rfl rfl rfl ?_ | refine wpl_load LB rfl rfl rfl ?_ | (at_builtin; refine wpl_app w1.heap.size ZH.out.1 hx ZH.out.2.1 ⟨Y.heap.size, 0, none⟩ 1 (news := [⟨f.nm, f.bs, f.bs.length⟩]) ZH.out.2.2 (by simp) (by simp; omega) rfl _ _ rfl rfl rfl ?_; intro g3 cap3 w3 hown3 hg3 hb3))
        go_roundw
        case rel => exact ⟨k, i + 1, by omega, by go_num, by go_num, ⟨_, by simpa using hown3, by simp [Value.ownBlock]; exact hg3, hbT.trans (((Below.refl _ _).alloc hbT.size _).trans hb3), by simp [OL.out], by omega, NX.out⟩⟩
        case measure => simp [intOf]; omega
      · obtain ⟨nn, hnn⟩ : ∃ nn : Nat, nn = f.bs.length - f.sf := ⟨_, rfl⟩
        rw [← hnn] at q1
        have g1 : (0 : Int) < (nn : Int) := by omega
        have kY : Below w1.heap.size w1 Y := HB.out.trans ⟨bY.os, bY.tape, bY.output, bY.size, fun b hb => bY.block b (by have := HB.out.size; omega)⟩
        by_cases hk1 : k < ks.length
        · have k1 : (k : Int) < (ks.length : Int) := by omega
          obtain ⟨x, hx1⟩ : ∃ x, ks[k]? = some x := ⟨_, List.getElem?_eq_getElem hk1⟩
          have xm := KM.out x (List.mem_of_getElem? hx1)
          obtain ⟨ad, rfl, kc1⟩ := KKH.out Y kY k x hx1
          have nx := on_step_some hf hs hx1 IV.out
          rw [← hnn] at nx
          by_cases hx0 : 0 < x
          · obtain ⟨kp, hkp⟩ : ∃ kp : Nat, kp = (max x 0).toNat % (nn + 1) := ⟨_, rfl⟩
            have r4 : x.tmod ((nn : Int) + 1) = (kp : Int) := by
              have := keep_num x nn
              rw [show max x 0 = x by omega] at this
              rw [this, hkp, show max x 0 = x by omega]
            have kl1 : kp < nn + 1 := by rw [hkp]; exact Nat.mod_lt _ (by omega)
            rw [← hkp] at nx
            obtain ⟨mm, hmm⟩ : ∃ mm : Nat, mm = f.sf + kp := ⟨_, rfl⟩
            rw [← hmm] at nx
            have NX := Lib.hid nx
            have r1 : IntKind.u64.wrap x = x := by rw [IntKind.wrap_u64]; omega
            have r2 : IntKind.i64.wrap ((nn : Int) + 1) = (nn : Int) + 1 := IntWalk.i64_in _ (by omega)
            have r3 : IntKind.u64.wrap ((nn : Int) + 1) = (nn : Int) + 1 := by rw [IntKind.wrap_u64]; omega
            have r5 : IntKind.i64.wrap (kp : Int) = (kp : Int) := IntWalk.i64_in _ (by omega)
            have r6 : IntKind.i64.wrap ((f.sf : Int) + (kp : Int)) = (mm : Int) := by rw [IntWalk.i64_in _ (by omega)]; omega
            have r7 : ¬ (nn : Int) + 1 = 0 := by omega
            have mb : mm ≤ f.bs.length := by omega
            clear nx hkp hx1 hnn hmm
            have CU := fcut_lo f.bs (a := mm) (by omega)
            obtain ⟨⟨LB, hoT, hbT⟩, _, d1, d2, d3⟩ := box_turned (f := f) (HB.out.size) HO.out HB.out hY bY (nmB (f.bs.take mm)) ((mm : Nat) : Int)
            have zt := nmB_size (f.bs.take mm)
            rw [List.length_take, Nat.min_eq_left (by omega)] at zt
            have ZH := Lib.hid (show (((Y.setCell ⟨wr.heap.size, 1, none⟩ (.string (nmB (f.bs.take mm)))).setCell ⟨wr.heap.size, 2, none⟩ (.int .i64 (mm : Int))).alloc (.cells #[.string (nmB f.nm), .string (nmB (f.bs.take mm)), .int .i64 ((mm : Int))] 65)).ownsRow 0 65 3 _ out.length (rowF out) ∧ w1.heap.size ≤ (((Y.setCell ⟨wr.heap.size, 1, none⟩ (.string (nmB (f.bs.take mm)))).setCell ⟨wr.heap.size, 2, none⟩ (.int .i64 (mm : Int))).alloc (.cells #[.string (nmB f.nm), .string (nmB (f.bs.take mm)), .int .i64 ((mm : Int))] 65)).heap.size ∧ ∀ j y, (rowF [(⟨f.nm, f.bs.take mm, mm⟩ : Fi)])[j]? = some y → (((Y.setCell ⟨wr.heap.size, 1, none⟩ (.string (nmB (f.bs.take mm)))).setCell ⟨wr.heap.size, 2, none⟩ (.int .i64 (mm : Int))).alloc (.cells #[.string (nmB f.nm), .string (nmB (f.bs.take mm)), .int .i64 ((mm : Int))] 65)).cell? ((⟨Y.heap.size, 0, none⟩ : Addr).add j) = some y from
              ⟨hoT.alloc _, by refine Nat.le_trans hbT.size (by simp), fi_block (by have := heap_alloc_new ((Y.setCell ⟨wr.heap.size, 1, none⟩ (.string (nmB (f.bs.take mm)))).setCell ⟨wr.heap.size, 2, none⟩ (.int .i64 (mm : Int))) (.cells #[.string (nmB f.nm), .string (nmB (f.bs.take mm)), .int .i64 ((mm : Int))] 65); rw [show ((Y.setCell ⟨wr.heap.size, 1, none⟩ (.string (nmB (f.bs.take mm)))).setCell ⟨wr.heap.size, 2, none⟩ (.int .i64 (mm : Int))).heap.size = Y.heap.size by simp] at this; exact this)⟩)
            clear hoT hf NXX hY bY IV HO HB hs kY
            go_wp2_with (first | refine wpl_loadA LA rfl rfl rfl ?_ | refine wpl_store S rfl rfl rfl rfl rfl ?_ | refine wpl_load LB rfl rfl rfl ?_ | (at_builtin; refine wpl_app w1.heap.size ZH.out.1 hx ZH.out.2.1 ⟨Y.heap.size, 0, none⟩ 1 (news := [⟨f.nm, f.bs.take mm, mm⟩]) ZH.out.2.2 (by simp) (by simp; omega) rfl _ _ rfl rfl rfl ?_; intro g3 cap3 w3 hown3 hg3 hb3))
            go_roundw
            case rel => exact ⟨k + 1, i + 1, by omega, by go_num, by go_num, ⟨_, by simpa using hown3, by simp [Value.ownBlock]; exact hg3, hbT.trans (((Below.refl _ _).alloc hbT.size _).trans hb3), by simp [OL.out], by omega, NX.out⟩⟩
            case measure => simp [intOf]; omega
          · obtain ⟨mm, hmm⟩ : ∃ mm : Nat, mm = f.sf := ⟨_, rfl⟩
            rw [show max x 0 = 0 by omega, show (0 : Int).toNat % (nn + 1) = 0 by simp, Nat.add_zero, ← hmm] at nx
            have NX := Lib.hid nx
            have r6 : IntKind.i64.wrap (f.sf : Int) = (mm : Int) := by rw [IntWalk.i64_in _ (by omega), hmm]
            have mb : mm ≤ f.bs.length := by omega
            clear nx hx1 hnn hmm
            have CU := fcut_lo f.bs (a := mm) (by omega)
            obtain ⟨⟨LB, hoT, hbT⟩, _, d1, d2, d3⟩ := box_turned (f := f) (HB.out.size) HO.out HB.out hY bY (nmB (f.bs.take mm)) ((mm : Nat) : Int)
            have zt := nmB_size (f.bs.take mm)
            rw [List.length_take, Nat.min_eq_left (by omega)] at zt
            have ZH := Lib.hid (show (((Y.setCell ⟨wr.heap.size, 1, none⟩ (.string (nmB (f.bs.take mm)))).setCell ⟨wr.heap.size, 2, none⟩ (.int .i64 (mm : Int))).alloc (.cells #[.string (nmB f.nm), .string (nmB (f.bs.take mm)), .int .i64 ((mm : Int))] 65)).ownsRow 0 65 3 _ out.length (rowF out) ∧ w1.heap.size ≤ (((Y.setCell ⟨wr.heap.size, 1, none⟩ (.string (nmB (f.bs.take mm)))).setCell ⟨wr.heap.size, 2, none⟩ (.int .i64 (mm : Int))).alloc (.cells #[.string (nmB f.nm), .string (nmB (f.bs.take mm)), .int .i64 ((mm : Int))] 65)).heap.size ∧ ∀ j y, (rowF [(⟨f.nm, f.bs.take mm, mm⟩ : Fi)])[j]? = some y → (((Y.setCell ⟨wr.heap.size, 1, none⟩ (.string (nmB (f.bs.take mm)))).setCell ⟨wr.heap.size, 2, none⟩ (.int .i64 (mm : Int))).alloc (.cells #[.string (nmB f.nm), .string (nmB (f.bs.take mm)), .int .i64 ((mm : Int))] 65)).cell? ((⟨Y.heap.size, 0, none⟩ : Addr).add j) = some y from
              ⟨hoT.alloc _, by refine Nat.le_trans hbT.size (by simp), fi_block (by have := heap_alloc_new ((Y.setCell ⟨wr.heap.size, 1, none⟩ (.string (nmB (f.bs.take mm)))).setCell ⟨wr.heap.size, 2, none⟩ (.int .i64 (mm : Int))) (.cells #[.string (nmB f.nm), .string (nmB (f.bs.take mm)), .int .i64 ((mm : Int))] 65); rw [show ((Y.setCell ⟨wr.heap.size, 1, none⟩ (.string (nmB (f.bs.take mm)))).setCell ⟨wr.heap.size, 2, none⟩ (.int .i64 (mm : Int))).heap.size = Y.heap.size by simp] at this; exact this)⟩)
            clear hoT hf NXX hY bY IV HO HB hs kY
            go_wp2_with (first | refine wpl_loadA LA rfl rfl rfl ?_ | refine wpl_store S rfl rfl rfl rfl rfl ?_ | refine wpl_load LB rfl rfl rfl ?_ | (at_builtin; refine wpl_app w1.heap.size ZH.out.1 hx ZH.out.2.1 ⟨Y.heap.size, 0, none⟩ 1 (news := [⟨f.nm, f.bs.take mm, mm⟩]) ZH.out.2.2 (by simp) (by simp; omega) rfl _ _ rfl rfl rfl ?_; intro g3 cap3 w3 hown3 hg3 hb3))
            go_roundw
            case rel => exact ⟨k + 1, i + 1, by omega, by go_num, by go_num, ⟨_, by simpa using hown3, by simp [Value.ownBlock]; exact hg3, hbT.trans (((Below.refl _ _).alloc hbT.size _).trans hb3), by simp [OL.out], by omega, NX.out⟩⟩
            case measure => simp [intOf]; omega
        · have k1 : ¬ (k : Int) < (ks.length : Int) := by omega
          have nx := on_step_none hf hs (by omega) IV.out
          obtain ⟨mm, hmm⟩ : ∃ mm : Nat, mm = f.sf := ⟨_, rfl⟩
          rw [← hmm] at nx
          have NX := Lib.hid nx
          have r6 : IntKind.i64.wrap (f.sf : Int) = (mm : Int) := by rw [IntWalk.i64_in _ (by omega), hmm]
          have mb : mm ≤ f.bs.length := by omega
          clear nx hnn hmm
          have CU := fcut_lo f.bs (a := mm) (by omega)
          obtain ⟨⟨LB, hoT, hbT⟩, _, d1, d2, d3⟩ := box_turned (f := f) (HB.out.size) HO.out HB.out hY bY (nmB (f.bs.take mm)) ((mm : Nat) : Int)
          have zt := nmB_size (f.bs.take mm)
          rw [List.length_take, Nat.min_eq_left (by omega)] at zt
          have ZH := Lib.hid (show (((Y.setCell ⟨wr.heap.size, 1, none⟩ (.string (nmB (f.bs.take mm)))).setCell ⟨wr.heap.size, 2, none⟩ (.int .i64 (mm : Int))).alloc (.cells #[.string (nmB f.nm), .string (nmB (f.bs.take mm)), .int .i64 ((mm : Int))] 65)).ownsRow 0 65 3 _ out.length (rowF out) ∧ w1.heap.size ≤ (((Y.setCell ⟨wr.heap.size, 1, none⟩ (.string (nmB (f.bs.take mm)))).setCell ⟨wr.heap.size, 2, none⟩ (.int .i64 (mm : Int))).alloc (.cells #[.string (nmB f.nm), .string (nmB (f.bs.take mm)), .int .i64 ((mm : Int))] 65)).heap.size ∧ ∀ j y, (rowF [(⟨f.nm, f.bs.take mm, mm⟩ : Fi)])[j]? = some y → (((Y.setCell ⟨wr.heap.size, 1, none⟩ (.string (nmB (f.bs.take mm)))).setCell ⟨wr.heap.size, 2, none⟩ (.int .i64 (mm : Int))).alloc (.cells #[.string (nmB f.nm), .string (nmB (f.bs.take mm)), .int .i64 ((mm : Int))] 65)).cell? ((⟨Y.heap.size, 0, none⟩ : Addr).add j) = some y from
            ⟨hoT.alloc _, by refine Nat.le_trans hbT.size (by simp), fi_block (by have := heap_alloc_new ((Y.setCell ⟨wr.heap.size, 1, none⟩ (.string (nmB (f.bs.take mm)))).setCell ⟨wr.heap.size, 2, none⟩ (.int .i64 (mm : Int))) (.cells #[.string (nmB f.nm), .string (nmB (f.bs.take mm)), .int .i64 ((mm : Int))] 65); rw [show ((Y.setCell ⟨wr.heap.size, 1, none⟩ (.string (nmB (f.bs.take mm)))).setCell ⟨wr.heap.size, 2, none⟩ (.int .i64 (mm : Int))).heap.size = Y.heap.size by simp] at this; exact this)⟩)
          clear hoT hf NXX hY bY IV HO HB hs kY
          go_wp2_with (first | refine wpl_loadA LA rfl rfl rfl ?_ | refine wpl_store S rfl rfl rfl rfl rfl ?_ | refine wpl_load LB rfl rfl rfl ?_ | (at_builtin; refine wpl_app w1.heap.size ZH.out.1 hx ZH.out.2.1 ⟨Y.heap.size, 0, none⟩ 1 (news := [⟨f.nm, f.bs.take mm, mm⟩]) ZH.out.2.2 (by simp) (by simp; omega) rfl _ _ rfl rfl rfl ?_; intro g3 cap3 w3 hown3 hg3 hb3))
          go_roundw
          case rel => exact ⟨k + 1, i + 1, by omega, by go_num, by go_num, ⟨_, by simpa using hown3, by simp [Value.ownBlock]; exact hg3, hbT.trans (((Below.refl _ _).alloc hbT.size _).trans hb3), by simp [OL.out], by omega, NX.out⟩⟩
          case measure => simp [intOf]; omega
    · have l1 : ¬ (i : Int) < (D.L.length : Int) := by omega
      have i1 : i = D.L.length := by omega
      have e1 := IV.out
      rw [i1, List.drop_of_length_le (Nat.le_refl _), show onL (ks.drop k) [] = [] by cases ks.drop k <;> rfl, List.append_nil] at e1
      have RPX := Lib.hid (FH.out wr _ HB.out (by rw [e1]; exact HO.out) hx)
      have f0 := (KH.out wr HB.out).frozen 0
      clear e1 i1 IV HO HB
      go_wp2
      exact bodyPost_end (v := .tuple #[]) (by simp [results, Tryz.results16, go_sem]) rfl ⟨rfl, RPX.out⟩
end
end Go.Proofs.YtdmgobffhpgjlaaGreat.Pk
