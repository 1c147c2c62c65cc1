/-
  The document's Add and Sync of a log.
-/
import Derived.Test.YtdmgobffhpgjlaaGreatDxA
import Derived.Test.YtdmgobffhpgjlaaGreatDgE
import Derived.Test.YtdmgobffhpgjlaaGreatPkLastS

namespace Go.Proofs.YtdmgobffhpgjlaaGreat.Sl.Dg
open Go.RowKit Go.PlainAid Go.Proofs.YtdmgobffhpgjlaaGreat.Cr
open Go.Proofs.YtdmgobffhpgjlaaGreat.Pk (Bs Fi Dk kl usedF held_but_last2 last_turn)
set_option linter.unusedVariables false
set_option maxRecDepth 20000
set_option linter.unusedSimpArgs false

section
variable {o : Oper} {a : Act} {w : World} {K : Act → World → Prop} {Q : Exit → Act → World → Prop} {x s : Operand} {t : Sp}
theorem op_appendB {M n m : Nat} {v : Value} {xs news : List Value} {ad : Addr} {c : Nat} (ho : o.op = .call { callee := .builtin .append, args := #[s, x], argTypes := #[29, 29] }) (hs : a.eval s = v) (own : w.ownsRow M 39 38 v n xs)
    (hx : a.eval x = .slice (some ad) m c) (hl : news.length = m * 38) (hn : ∀ j u, news[j]? = some u → w.cell? (ad.add j) = some u) (h1 : ∀ u ∈ news, u.oneCell' = true) (hb : n + m ≤ 1000000) (hM : M ≤ w.heap.size)
    (h : ∀ v' w', w'.ownsRow M 39 38 v' (n + m) (xs ++ news) → w.grownBy w' v.ownBlock → K (a.put o.dst v') w') : o.wp Tryz.prog a w K Q := by
  obtain ⟨i0, hi, hz0, hz1, hz2⟩ := info_parts infoSl
  exact wp_append_own w s x 29 ho M 39 i0 (.agg #[.int .i64 0, .string ⟨#[]⟩, .string ⟨#[]⟩, .int .u8 0, .int .u8 0, .int .u8 0, .int .u8 0, .int .u8 0, .int .u8 0, .int .u8 0, .int .u8 0, .int .u8 0, .int .u8 0, .int .u8 0, .int .u8 0, .int .u8 0, .int .u8 0, .int .u8 0, .int .u8 0, .int .u8 0, .int .u8 0, .int .u8 0, .int .u8 0, .int .u8 0, .int .u8 0, .int .u8 0, .int .u8 0, .int .u8 0, .int .u8 0, .int .u8 0, .int .u8 0, .int .u8 0, .int .u8 0, .int .u8 0, .int .u8 0, .string ⟨#[]⟩, .int .i64 0, .int .i64 0]) 38 104 Tryz.underlying29 hi hz0 hz1 hz2 rfl (by decide) v n xs hs own ad m c news hx hl hn h1 (by unfold maxLen; omega) (by omega) hM fun v' w' a b _ => h v' w' a b
end
/-- the slips of the document's log: a row of its own -/
structure RowS (w0 w : World) (v : Value) (L : Lg) (xs : List Sp) : Prop where
  own : w.ownsRow w0.heap.size 39 38 v xs.length (slsL xs)
  ok : ∀ x ∈ xs, Okay x
  n : L.n = (xs.length : Int)
theorem RowS.kp {w0 w w' : World} {v : Value} {L : Lg} {xs : List Sp} (h : RowS w0 w v L xs) (k : Kp w w') : RowS w0 w' v L xs := ⟨k.owns h.own, h.ok, h.n⟩
theorem RowS.form {w0 w : World} {v : Value} {L : Lg} {xs : List Sp} (h : RowS w0 w v L xs) : ∃ g c, v = .slice g xs.length c := by
  rcases h.own.2 with ⟨rfl, e⟩ | ⟨g, cap, cur, rfl, _⟩
  · exact ⟨none, 0, by rw [e]⟩
  · exact ⟨_, cap, rfl⟩
section
variable {w0 w w' : World} {u r : Nat} {E : Dk} {v : Value} {L : Lg} {X : List (Nat × Obj)} {xs : List Sp}
/-- what Add of the document's log answers -/
def RAddPost (w0 : World) (u r : Nat) (y : Int × Dk × Lg) (X : List (Nat × Obj)) (e : Ending) (w' : World) : Prop :=
  e = .returned (.int .i64 y.1) ∧ ∃ v' xs', HasQ w0 w' u r y.2.1 v' y.2.2 X ∧ w'.ownsRow w0.heap.size 39 38 v' xs'.length (slsL xs') ∧ (∀ x ∈ xs', Okay x) ∧ y.2.2.n = (xs'.length : Int)
set_option maxHeartbeats 2000000 in
theorem radd_sick (h : HasQ w0 w u r E v L X) (x : Sp) (hk : L.k = true) :
    Calls Tryz.prog 22 #[.pointer (some ⟨r, 0, none⟩), .agg (slV x)] w fun e w' => e = .returned (.int .i64 8) ∧ HasQ w0 w' u r E v L X ∧ Kp w w' := by
  have kp : Kp w (w.alloc (.cells (slV x) 39)) := Kp.of_below ((Below.refl _ _).alloc (Nat.le_refl _) _)
  replace h := h.alloc (.cells (slV x) 39)
  go_enter Tryz.func22, Tryz.ntmps22
  go_upto_region 1 with (fail)
  generalize w.alloc (.cells (slV x) 39) = w1 at h kp ⊢
  have c : w1.cell? ⟨r, 4, none⟩ = some (.bool true) := by rw [← hk]; exact h.at.cell 4
  clear hk
  go_wp2
  go_ret
  exact ⟨rfl, h, kp⟩
set_option maxHeartbeats 2000000 in
theorem radd_no (h : HasQ w0 w u r E v L X) (x : Sp) (ok : Okay x) (hx : canB x = false) (hk : L.k = false) :
    Calls Tryz.prog 22 #[.pointer (some ⟨r, 0, none⟩), .agg (slV x)] w fun e w' => e = .returned (.int .i64 1) ∧ HasQ w0 w' u r E v L X ∧ Kp w w' := by
  have kp : Kp w (w.alloc (.cells (slV x) 39)) := Kp.of_below ((Below.refl _ _).alloc (Nat.le_refl _) _)
  have J := At.new w 39 (slV x)
  replace h := h.alloc (.cells (slV x) 39)
  have C1 := Lib.hid fun z => rgood_any x z ok
  rw [hx] at C1
  go_enter Tryz.func22, Tryz.ntmps22
  go_upto_region 1 with (fail)
  generalize w.alloc (.cells (slV x) 39) = w1 at h J kp ⊢
  generalize w.heap.size = B at J ⊢
  have LX := sl_loads J ok.dig.len
  have c : w1.cell? ⟨r, 4, none⟩ = some (.bool false) := by rw [← hk]; exact h.at.cell 4
  clear hk hx
  go_wp2_with (refine wpl_load LX rfl rfl rfl ?_)
  refine (C1.out _).mono ?_
  rintro e w2 ⟨rfl, G⟩
  replace h := h.kept G
  replace kp := kp.trans (Kp.of_below G)
  clear G C1 LX J c
  go_wp2
  go_ret
  exact ⟨rfl, h, kp⟩
set_option maxHeartbeats 2000000 in
theorem radd_fail (h : HasQ w0 w u r E v L X) (pw : E.Pw) (ho : E.ops ≤ 1099511627776) (x : Sp) (ok : Okay x) (hx : Can x) (hk : L.k = false) {e1 : Int} {E1 : Dk} (hE : E.append dN (recB x) = (e1, E1)) (c1 : e1 ≠ 0) :
    Calls Tryz.prog 22 #[.pointer (some ⟨r, 0, none⟩), .agg (slV x)] w fun e w' => e = .returned (.int .i64 e1) ∧ HasQ w0 w' u r E1 v { L with k := true } X := by
  have n1 : (e1 != 0) = true := by simpa using c1
  have bl2 := body_len hx
  have hz : (Cr.strOf (recL (bodyL x))).size ≤ 100000 := by rw [strOf_size, rec_len]; omega
  have C2 := Lib.hid fun z (h : HasQ w0 z u r E v L X) => rh_append h.d pw ho (s := dS) (t := Cr.strOf (recL (bodyL x))) (by decide) (by omega)
  rw [kl_dS, kl_strOf, show u8 (recL (bodyL x)) = recB x from rfl, hE] at C2
  have C1 := Lib.hid fun z => rgood_any x z ok
  rw [canB_yes hx] at C1
  have C3 := Lib.hid fun z => rbody_any x z hx
  have C4 := Lib.hid fun z => framed_any (Cr.strOf (bodyL x)) z (by rw [strOf_size]; omega)
  rw [bl_strOf (body_lt ok.dig)] at C4
  clear hE bl2
  generalize Cr.strOf (recL (bodyL x)) = s at C2 C4 hz
  generalize Cr.strOf (bodyL x) = b at C3 C4
  have J := At.new w 39 (slV x)
  replace h := h.alloc (.cells (slV x) 39)
  go_enter Tryz.func22, Tryz.ntmps22
  go_upto_region 1 with (fail)
  generalize w.alloc (.cells (slV x) 39) = w1 at h J ⊢
  generalize w.heap.size = B at J ⊢
  have LX := sl_loads J ok.dig.len
  have c : w1.cell? ⟨r, 4, none⟩ = some (.bool false) := by rw [← hk]; exact h.at.cell 4
  go_wp2_with (refine wpl_load LX rfl rfl rfl ?_)
  refine (C1.out _).mono ?_
  rintro e w2 ⟨rfl, G⟩
  replace h := h.kept G
  replace J := J.old G
  clear G C1 LX c
  have LX := sl_loads J ok.dig.len
  go_wp2_with (refine wpl_load LX rfl rfl rfl ?_)
  refine (C3.out _).mono ?_
  rintro e w3 ⟨rfl, G⟩
  replace h := h.kept G
  clear G C3 LX J
  go_wp2_with fail
  refine (C4.out _).mono ?_
  rintro e w4 ⟨rfl, G⟩
  replace h := h.kept G
  clear G C4
  have c0 : w4.cell? ⟨r, 0, none⟩ = some (.pointer (some ⟨u, 0, none⟩)) := h.at.cell 0
  go_wp2_with fail
  refine (C2.out w4 h).mono ?_
  rintro e w5 ⟨rfl, h3⟩
  clear c0
  replace h : HasQ w0 w5 u r E1 v L X := ⟨h3, h.hq, h.hx⟩
  have c4 : w5.cell? ⟨r, 4, none⟩ = some (.bool false) := by rw [← hk]; exact h.at.cell 4
  have f4 := h.at.frozen 4
  have h5 := h.set (v' := v) (L' := { L with k := true }) 4 (.bool true) rfl
  clear C2 hk h h3
  go_wp2
  go_ret
  exact ⟨rfl, h5⟩
set_option maxHeartbeats 8000000 in
theorem radd_ok (h : HasQ w0 w u r E v L X) (pw : E.Pw) (ho : E.ops ≤ 1099511627776) (fit : L.Fits) (row : RowS w0 w v L xs) (hl : xs.length ≤ 200000) (x : Sp) (ok : Okay x) (hx : Can x) (hk : L.k = false) {E1 : Dk} (hE : E.append dN (recB x) = (0, E1)) :
    Calls Tryz.prog 22 #[.pointer (some ⟨r, 0, none⟩), .agg (slV x)] w fun e w' => RAddPost w0 u r (0, E1, { L with n := L.n + 1, b := L.b + ((recB x).length : Int) }) X e w' := by
  have bl2 := body_len hx
  have hz : (Cr.strOf (recL (bodyL x))).size ≤ 100000 := by rw [strOf_size, rec_len]; omega
  have C2 := Lib.hid fun z (h : HasQ w0 z u r E v L (slipX z ++ X)) => rh_append h.d pw ho (s := dS) (t := Cr.strOf (recL (bodyL x))) (by decide) (by omega)
  rw [kl_dS, kl_strOf, show u8 (recL (bodyL x)) = recB x from rfl, hE] at C2
  have C1 := Lib.hid fun z => rgood_any x z ok
  rw [canB_yes hx] at C1
  have C3 := Lib.hid fun z => rbody_any x z hx
  have C4 := Lib.hid fun z => framed_any (Cr.strOf (bodyL x)) z (by rw [strOf_size]; omega)
  rw [bl_strOf (body_lt ok.dig)] at C4
  have hlen : (recB x).length = (Cr.strOf (recL (bodyL x))).size := by rw [strOf_size]; exact u8_len _
  rw [hlen]
  clear hE bl2 hlen
  generalize Cr.strOf (recL (bodyL x)) = s at C2 C4 hz ⊢
  generalize Cr.strOf (bodyL x) = b at C3 C4
  have g1 := fit.n
  have g2 := fit.b
  have OK := Lib.hid row.ok
  have HN := Lib.hid row.n
  have own := row.own
  clear fit row
  have J := At.new w 39 (slV x)
  replace h := h.alloc (.cells (slV x) 39)
  replace own := own.alloc (.cells (slV x) 39)
  go_enter Tryz.func22, Tryz.ntmps22
  go_upto_region 1 with (fail)
  generalize w.alloc (.cells (slV x) 39) = w1 at h J own ⊢
  generalize w.heap.size = B at J ⊢
  have LX := sl_loads J ok.dig.len
  have c : w1.cell? ⟨r, 4, none⟩ = some (.bool false) := by rw [← hk]; exact h.at.cell 4
  go_wp2_with (refine wpl_load LX rfl rfl rfl ?_)
  refine (C1.out _).mono ?_
  rintro e w2 ⟨rfl, G⟩
  replace h := h.kept G
  replace J := J.old G
  replace own := owns_below own G
  clear G C1 LX c
  have LX := sl_loads J ok.dig.len
  go_wp2_with (refine wpl_load LX rfl rfl rfl ?_)
  refine (C3.out _).mono ?_
  rintro e w3 ⟨rfl, G⟩
  replace h := h.kept G
  replace J := J.old G
  replace own := owns_below own G
  clear G C3 LX
  go_wp2_with fail
  refine (C4.out _).mono ?_
  rintro e w4 ⟨rfl, G⟩
  replace h := h.kept G
  replace J := J.old G
  replace own := owns_below own G
  clear G C4
  have c0 : w4.cell? ⟨r, 0, none⟩ = some (.pointer (some ⟨u, 0, none⟩)) := h.at.cell 0
  go_wp2_with fail
  refine (C2.out w4 h.slips).mono ?_
  rintro e w3 ⟨rfl, h3⟩
  clear c0
  have kp : Kp w4 w3 := rkp_of (h3.less fun y hy => List.mem_cons_of_mem _ hy)
  replace J := kp.at J
  have own3 := kp.owns own
  replace h : HasQ w0 w3 u r E1 v L X := HasQ.less ⟨h3, h.hq, h.slips.hx⟩ fun y hy => List.mem_append_right _ hy
  clear C2 hk h3 kp own
  go_upto_region 10 with (fail)
  rcases own3.2 with ⟨rfl, e0⟩ | ⟨gf, cf, cur, rfl, _, _, _⟩
  · as_aux_lemma =>
      have HF : Hid (xs = []) := Lib.hid (List.eq_nil_of_length_eq_zero e0)
      clear e0
      obtain ⟨M, hM⟩ : ∃ M, M = w3.heap.size := ⟨_, rfl⟩
      have k0 : Below M w3 w3.drew := (Below.refl _ _).drew
      have LH : Hid (∀ z, Below M w3 z → Loads Tryz.prog z 39 ⟨B, 0, none⟩ (slV x)) := Lib.hid fun z j => sl_loads (J.below j (by rw [hM]; exact J.lt)) ok.dig.len
      have CL : Hid (∀ z, Below M w3 z → z.cell? ⟨r, 1, none⟩ = some (.slice none 0 0)) := Lib.hid fun z j => (h.at.below j (by rw [hM]; exact h.lt)).cell 1
      have H : Hid (∀ z, Below M w3 z → HasQ w0 z u r E1 (.slice none 0 0) L X) := Lib.hid fun z j => h.kept (by rw [← hM]; exact j)
      have OWN : Hid (∀ z, Below M w3 z → z.ownsRow w0.heap.size 39 38 (.slice none 0 0) xs.length (slsL xs)) := Lib.hid fun z j => owns_below own3 (by rw [← hM]; exact j)
      have HM : Hid (M ≤ w3.heap.size) := Lib.hid (by omega)
      have MB : Hid (w0.heap.size ≤ M) := Lib.hid (by rw [hM]; exact h.below.size)
      clear hM J h own3
      refine held_but_last2 12 (S := fun z => Below M w3 z) (by kernel_rfl) (by kernel_rfl) ?_
      change wpAnyH _ _ _ _ _ _ _ _ w3.drew
      generalize w3.drew = z0 at k0 ⊢
      refine held_take 0 (.pointer (some ⟨r, 0, none⟩)) rfl (by kernel_rfl) (by kernel_rfl) (by kernel_rfl) (fun _ _ _ h => h) (Or.inl ⟨by rfl, fun x j => by go_simp⟩) k0 (fun K hK => ?_)
      go_simp
      refine hK _ _ ?_
      clear hK K
      refine held_take 2 (.pointer (some ⟨r, 0, none⟩)) rfl (by kernel_rfl) (by kernel_rfl) (by kernel_rfl) (fun _ _ _ h => h) (Or.inl ⟨by rfl, fun x j => by go_simp⟩) k0 (fun K hK => ?_)
      go_simp
      refine hK _ _ ?_
      clear hK K
      refine held_take 3 (.pointer (some ⟨r, 0, none⟩)) rfl (by kernel_rfl) (by kernel_rfl) (by kernel_rfl) (fun _ _ _ h => h) (Or.inl ⟨by rfl, fun x j => by go_simp⟩) k0 (fun K hK => ?_)
      go_simp
      refine hK _ _ ?_
      clear hK K
      refine held_take 4 (.pointer (some ⟨r, 1, none⟩)) rfl (by kernel_rfl) (by kernel_rfl) (by kernel_rfl) (fun _ _ _ h => h) (Or.inl ⟨by rfl, fun x j => by go_simp⟩) k0 (fun K hK => ?_)
      go_simp
      refine hK _ _ ?_
      clear hK K
      refine held_take 5 ((.slice none 0 0)) rfl (by kernel_rfl) (by kernel_rfl) (by kernel_rfl) (fun _ _ _ h => h) (Or.inl ⟨by rfl, fun x j => by have cl := CL.out _ j; go_simp⟩) k0 (fun K hK => ?_)
      go_simp
      refine hK _ _ ?_
      clear hK K
      refine held_take 7 (.agg (slV x)) rfl (by kernel_rfl) (by kernel_rfl) (by kernel_rfl) (fun _ _ _ h => h) (yields_load LH.out rfl rfl rfl) k0 (fun K hK => ?_)
      go_simp
      refine hK _ _ ?_
      clear hK K
      refine held_two 1 8 (by kernel_rfl) (fun K hK => wpOp_in rfl rfl ?_) (fun K hK => wpOp_in rfl rfl ?_)
      · go_simp
        have k1 := k0.alloc (Nat.le_trans HM.out k0.size) (.cells #[] 39)
        refine hK _ _ k1 ?_
        clear hK K
        have own := World.ownsRow_made (base := M) (e := 39) (size := 38) z0 #[] 0 (Nat.le_trans HM.out k0.size) (Nat.zero_le _) rfl
        have s4 : z0.heap.size < (z0.alloc (.cells #[] 39)).heap.size := by simp
        clear k0
        generalize z0.alloc (.cells #[] 39) = z1 at k1 own s4 ⊢
        generalize z0.heap.size = g4 at own s4 ⊢
        refine held_two 6 8 (by kernel_rfl) (fun K hK => wpOp_in rfl rfl ?_) (fun K hK => wpOp_in rfl rfl ?_)
        · refine op_append_none rfl rfl own rfl ?_
          refine hK _ _ k1 ?_
          clear hK K
          have k2 := k1
          have own6 : z1.ownsRow M 39 38 (.slice (some ⟨g4, 0, none⟩) 0 0) xs.length (slsL xs) := by rw [HF.out]; exact own
          clear own k1
          generalize z1 = z2 at k2 own6 ⊢
          generalize (Value.slice (some ⟨g4, 0, none⟩) 0 0) = v6 at own6 ⊢
          refine held_one 8 (by kernel_rfl) (fun K hK => wpOp_in rfl rfl ?_)
          refine op_built1 ok rfl rfl ?_
          have k3 := k2.alloc (Nat.le_trans HM.out k2.size) (.cells (slV x) 39)
          refine hK _ _ k3 ?_
          clear hK K
          have x8 := At.new z2 39 (slV x)
          replace own6 := own6.alloc (.cells (slV x) 39)
          clear k2
          generalize z2.alloc (.cells (slV x) 39) = z3 at k3 x8 own6 ⊢
          generalize z2.heap.size = g8 at x8 ⊢
          refine held_one 9 (by kernel_rfl) (fun K hK => wpOp_in rfl rfl ?_)
          refine op_appendB rfl rfl own6 rfl (by rw [slL_len ok.dig.len]) (fun j u hj => by rw [add_at, Nat.zero_add, x8.cell]; simpa [slV] using hj) (slL_one x) (by omega) (Nat.le_trans HM.out k3.size) ?_
          intro v9 z9 own9 hgr
          have k9 := k3.grown hgr (Nat.le_trans HM.out k3.size) fun k hk => (own6.lt k hk).1
          refine hK _ _ k9 ?_
          clear hK K
          have own10 : z9.ownsRow M 39 38 v9 (xs ++ [x]).length (slsL (xs ++ [x])) := by rw [slsL_snoc, List.length_append]; exact own9
          clear own9 own6 x8 hgr k3
          refine held_take 10 (.pointer (some ⟨r, 0, none⟩)) rfl (by kernel_rfl) (by kernel_rfl) (by kernel_rfl) (fun _ _ _ h => h) (Or.inl ⟨by rfl, fun x j => by go_simp⟩) k9 (fun K hK => ?_)
          go_simp
          refine hK _ _ ?_
          clear hK K
          refine held_take 11 (.pointer (some ⟨r, 1, none⟩)) rfl (by kernel_rfl) (by kernel_rfl) (by kernel_rfl) (fun _ _ _ h => h) (Or.inl ⟨by rfl, fun x j => by go_simp⟩) k9 (fun K hK => ?_)
          go_simp
          refine hK _ _ ?_
          clear hK K
          refine wpAnyH_done (by kernel_rfl) ?_ _
          replace own10 := owns_mono own10 MB.out
          have h := H.out _ k9
          have c1 : z9.cell? ⟨r, 1, none⟩ = some (.slice none 0 0) := h.at.cell 1
          have f1 := h.at.frozen 1
          have h4 := h.set (v' := v9) (L' := L) 1 v9 rfl
          replace own10 := (h.kset 1 v9).owns own10
          clear k9 CL LH H OWN
          obtain ⟨g9, n9, cap9, rfl⟩ : ∃ g n c, v9 = .slice g n c := by
            rcases own10.2 with ⟨rfl, _⟩ | ⟨g, cap, cur, rfl, _⟩
            · exact ⟨_, _, _, rfl⟩
            · exact ⟨_, _, _, rfl⟩
          refine last_turn rfl rfl ?_
          go_simp
          clear h c1 f1
          generalize z9.setCell ⟨r, 1, none⟩ (.slice g9 n9 cap9) = y at h4 own10 ⊢
          have c3 : y.cell? ⟨r, 3, none⟩ = some (.int .i64 L.b) := h4.at.cell 3
          have f3 := h4.at.frozen 3
          have h5 := h4.set (v' := .slice g9 n9 cap9) (L' := { L with n := L.n + 1, b := L.b + (s.size : Int) }) 3 (.int .i64 (L.b + (s.size : Int))) rfl
          replace own10 := (h4.kset 3 (.int .i64 (L.b + (s.size : Int)))).owns own10
          clear h4
          go_wp2
          go_ret
          exact ⟨rfl, _, xs ++ [x], h5, own10, fun y hy => (List.mem_append.1 hy).elim (OK.out y) fun c => by simp at c; subst c; exact ok, by rw [List.length_append]; simp; exact HN.out⟩
        · refine op_built1 ok rfl rfl ?_
          have k2 := k1.alloc (Nat.le_trans HM.out k1.size) (.cells (slV x) 39)
          refine hK _ _ k2 ?_
          clear hK K
          have x8 := At.new z1 39 (slV x)
          have n48 : g4 < z1.heap.size := s4
          replace own := own.alloc (.cells (slV x) 39)
          clear k1 s4
          generalize z1.alloc (.cells (slV x) 39) = z2 at k2 x8 own ⊢
          generalize z1.heap.size = g8 at x8 n48 ⊢
          refine held_one 6 (by kernel_rfl) (fun K hK => wpOp_in rfl rfl ?_)
          refine op_append_none rfl rfl own rfl ?_
          refine hK _ _ k2 ?_
          clear hK K
          have k3 := k2
          have own6 : z2.ownsRow M 39 38 (.slice (some ⟨g4, 0, none⟩) 0 0) xs.length (slsL xs) := by rw [HF.out]; exact own
          clear own k2
          generalize z2 = z3 at k3 own6 x8 ⊢
          generalize (Value.slice (some ⟨g4, 0, none⟩) 0 0) = v6 at own6 ⊢
          refine held_one 9 (by kernel_rfl) (fun K hK => wpOp_in rfl rfl ?_)
          refine op_appendB rfl rfl own6 rfl (by rw [slL_len ok.dig.len]) (fun j u hj => by rw [add_at, Nat.zero_add, x8.cell]; simpa [slV] using hj) (slL_one x) (by omega) (Nat.le_trans HM.out k3.size) ?_
          intro v9 z9 own9 hgr
          have k9 := k3.grown hgr (Nat.le_trans HM.out k3.size) fun k hk => (own6.lt k hk).1
          refine hK _ _ k9 ?_
          clear hK K
          have own10 : z9.ownsRow M 39 38 v9 (xs ++ [x]).length (slsL (xs ++ [x])) := by rw [slsL_snoc, List.length_append]; exact own9
          clear own9 own6 x8 hgr k3
          refine held_take 10 (.pointer (some ⟨r, 0, none⟩)) rfl (by kernel_rfl) (by kernel_rfl) (by kernel_rfl) (fun _ _ _ h => h) (Or.inl ⟨by rfl, fun x j => by go_simp⟩) k9 (fun K hK => ?_)
          go_simp
          refine hK _ _ ?_
          clear hK K
          refine held_take 11 (.pointer (some ⟨r, 1, none⟩)) rfl (by kernel_rfl) (by kernel_rfl) (by kernel_rfl) (fun _ _ _ h => h) (Or.inl ⟨by rfl, fun x j => by go_simp⟩) k9 (fun K hK => ?_)
          go_simp
          refine hK _ _ ?_
          clear hK K
          refine wpAnyH_done (by kernel_rfl) ?_ _
          replace own10 := owns_mono own10 MB.out
          have h := H.out _ k9
          have c1 : z9.cell? ⟨r, 1, none⟩ = some (.slice none 0 0) := h.at.cell 1
          have f1 := h.at.frozen 1
          have h4 := h.set (v' := v9) (L' := L) 1 v9 rfl
          replace own10 := (h.kset 1 v9).owns own10
          clear k9 CL LH H OWN
          obtain ⟨g9, n9, cap9, rfl⟩ : ∃ g n c, v9 = .slice g n c := by
            rcases own10.2 with ⟨rfl, _⟩ | ⟨g, cap, cur, rfl, _⟩
            · exact ⟨_, _, _, rfl⟩
            · exact ⟨_, _, _, rfl⟩
          refine last_turn rfl rfl ?_
          go_simp
          clear h c1 f1
          generalize z9.setCell ⟨r, 1, none⟩ (.slice g9 n9 cap9) = y at h4 own10 ⊢
          have c3 : y.cell? ⟨r, 3, none⟩ = some (.int .i64 L.b) := h4.at.cell 3
          have f3 := h4.at.frozen 3
          have h5 := h4.set (v' := .slice g9 n9 cap9) (L' := { L with n := L.n + 1, b := L.b + (s.size : Int) }) 3 (.int .i64 (L.b + (s.size : Int))) rfl
          replace own10 := (h4.kset 3 (.int .i64 (L.b + (s.size : Int)))).owns own10
          clear h4
          go_wp2
          go_ret
          exact ⟨rfl, _, xs ++ [x], h5, own10, fun y hy => (List.mem_append.1 hy).elim (OK.out y) fun c => by simp at c; subst c; exact ok, by rw [List.length_append]; simp; exact HN.out⟩
      · refine op_built1 ok rfl rfl ?_
        have k1 := k0.alloc (Nat.le_trans HM.out k0.size) (.cells (slV x) 39)
        refine hK _ _ k1 ?_
        clear hK K
        have x8 := At.new z0 39 (slV x)
        clear k0
        generalize z0.alloc (.cells (slV x) 39) = z1 at k1 x8 ⊢
        generalize z0.heap.size = g8 at x8 ⊢
        refine held_one 1 (by kernel_rfl) (fun K hK => wpOp_in rfl rfl ?_)
        go_simp
        have k2 := k1.alloc (Nat.le_trans HM.out k1.size) (.cells #[] 39)
        refine hK _ _ k2 ?_
        clear hK K
        have own := World.ownsRow_made (base := M) (e := 39) (size := 38) z1 #[] 0 (Nat.le_trans HM.out k1.size) (Nat.zero_le _) rfl
        have n48 : g8 < z1.heap.size := x8.lt
        replace x8 := x8.alloc (.cells #[] 39)
        clear k1
        generalize z1.alloc (.cells #[] 39) = z2 at k2 own x8 ⊢
        generalize z1.heap.size = g4 at own n48 ⊢
        refine held_one 6 (by kernel_rfl) (fun K hK => wpOp_in rfl rfl ?_)
        refine op_append_none rfl rfl own rfl ?_
        refine hK _ _ k2 ?_
        clear hK K
        have k3 := k2
        have own6 : z2.ownsRow M 39 38 (.slice (some ⟨g4, 0, none⟩) 0 0) xs.length (slsL xs) := by rw [HF.out]; exact own
        clear own k2
        generalize z2 = z3 at k3 own6 x8 ⊢
        generalize (Value.slice (some ⟨g4, 0, none⟩) 0 0) = v6 at own6 ⊢
        refine held_one 9 (by kernel_rfl) (fun K hK => wpOp_in rfl rfl ?_)
        refine op_appendB rfl rfl own6 rfl (by rw [slL_len ok.dig.len]) (fun j u hj => by rw [add_at, Nat.zero_add, x8.cell]; simpa [slV] using hj) (slL_one x) (by omega) (Nat.le_trans HM.out k3.size) ?_
        intro v9 z9 own9 hgr
        have k9 := k3.grown hgr (Nat.le_trans HM.out k3.size) fun k hk => (own6.lt k hk).1
        refine hK _ _ k9 ?_
        clear hK K
        have own10 : z9.ownsRow M 39 38 v9 (xs ++ [x]).length (slsL (xs ++ [x])) := by rw [slsL_snoc, List.length_append]; exact own9
        clear own9 own6 x8 hgr k3
        refine held_take 10 (.pointer (some ⟨r, 0, none⟩)) rfl (by kernel_rfl) (by kernel_rfl) (by kernel_rfl) (fun _ _ _ h => h) (Or.inl ⟨by rfl, fun x j => by go_simp⟩) k9 (fun K hK => ?_)
        go_simp
        refine hK _ _ ?_
        clear hK K
        refine held_take 11 (.pointer (some ⟨r, 1, none⟩)) rfl (by kernel_rfl) (by kernel_rfl) (by kernel_rfl) (fun _ _ _ h => h) (Or.inl ⟨by rfl, fun x j => by go_simp⟩) k9 (fun K hK => ?_)
        go_simp
        refine hK _ _ ?_
        clear hK K
        refine wpAnyH_done (by kernel_rfl) ?_ _
        replace own10 := owns_mono own10 MB.out
        have h := H.out _ k9
        have c1 : z9.cell? ⟨r, 1, none⟩ = some (.slice none 0 0) := h.at.cell 1
        have f1 := h.at.frozen 1
        have h4 := h.set (v' := v9) (L' := L) 1 v9 rfl
        replace own10 := (h.kset 1 v9).owns own10
        clear k9 CL LH H OWN
        obtain ⟨g9, n9, cap9, rfl⟩ : ∃ g n c, v9 = .slice g n c := by
          rcases own10.2 with ⟨rfl, _⟩ | ⟨g, cap, cur, rfl, _⟩
          · exact ⟨_, _, _, rfl⟩
          · exact ⟨_, _, _, rfl⟩
        refine last_turn rfl rfl ?_
        go_simp
        clear h c1 f1
        generalize z9.setCell ⟨r, 1, none⟩ (.slice g9 n9 cap9) = y at h4 own10 ⊢
        have c3 : y.cell? ⟨r, 3, none⟩ = some (.int .i64 L.b) := h4.at.cell 3
        have f3 := h4.at.frozen 3
        have h5 := h4.set (v' := .slice g9 n9 cap9) (L' := { L with n := L.n + 1, b := L.b + (s.size : Int) }) 3 (.int .i64 (L.b + (s.size : Int))) rfl
        replace own10 := (h4.kset 3 (.int .i64 (L.b + (s.size : Int)))).owns own10
        clear h4
        go_wp2
        go_ret
        exact ⟨rfl, _, xs ++ [x], h5, own10, fun y hy => (List.mem_append.1 hy).elim (OK.out y) fun c => by simp at c; subst c; exact ok, by rw [List.length_append]; simp; exact HN.out⟩
  · as_aux_lemma =>
      obtain ⟨M, hM⟩ : ∃ M, M = w3.heap.size := ⟨_, rfl⟩
      have k0 : Below M w3 w3.drew := (Below.refl _ _).drew
      have LH : Hid (∀ z, Below M w3 z → Loads Tryz.prog z 39 ⟨B, 0, none⟩ (slV x)) := Lib.hid fun z j => sl_loads (J.below j (by rw [hM]; exact J.lt)) ok.dig.len
      have CL : Hid (∀ z, Below M w3 z → z.cell? ⟨r, 1, none⟩ = some (.slice (some ⟨gf, 0, none⟩) xs.length cf)) := Lib.hid fun z j => (h.at.below j (by rw [hM]; exact h.lt)).cell 1
      have H : Hid (∀ z, Below M w3 z → HasQ w0 z u r E1 (.slice (some ⟨gf, 0, none⟩) xs.length cf) L X) := Lib.hid fun z j => h.kept (by rw [← hM]; exact j)
      have OWN : Hid (∀ z, Below M w3 z → z.ownsRow w0.heap.size 39 38 (.slice (some ⟨gf, 0, none⟩) xs.length cf) xs.length (slsL xs)) := Lib.hid fun z j => owns_below own3 (by rw [← hM]; exact j)
      have HM : Hid (M ≤ w3.heap.size) := Lib.hid (by omega)
      have MB : Hid (w0.heap.size ≤ M) := Lib.hid (by rw [hM]; exact h.below.size)
      clear hM J h own3
      refine held_but_last2 12 (S := fun z => Below M w3 z) (by kernel_rfl) (by kernel_rfl) ?_
      change wpAnyH _ _ _ _ _ _ _ _ w3.drew
      generalize w3.drew = z0 at k0 ⊢
      refine held_take 0 (.pointer (some ⟨r, 0, none⟩)) rfl (by kernel_rfl) (by kernel_rfl) (by kernel_rfl) (fun _ _ _ h => h) (Or.inl ⟨by rfl, fun x j => by go_simp⟩) k0 (fun K hK => ?_)
      go_simp
      refine hK _ _ ?_
      clear hK K
      refine held_take 2 (.pointer (some ⟨r, 0, none⟩)) rfl (by kernel_rfl) (by kernel_rfl) (by kernel_rfl) (fun _ _ _ h => h) (Or.inl ⟨by rfl, fun x j => by go_simp⟩) k0 (fun K hK => ?_)
      go_simp
      refine hK _ _ ?_
      clear hK K
      refine held_take 3 (.pointer (some ⟨r, 0, none⟩)) rfl (by kernel_rfl) (by kernel_rfl) (by kernel_rfl) (fun _ _ _ h => h) (Or.inl ⟨by rfl, fun x j => by go_simp⟩) k0 (fun K hK => ?_)
      go_simp
      refine hK _ _ ?_
      clear hK K
      refine held_take 4 (.pointer (some ⟨r, 1, none⟩)) rfl (by kernel_rfl) (by kernel_rfl) (by kernel_rfl) (fun _ _ _ h => h) (Or.inl ⟨by rfl, fun x j => by go_simp⟩) k0 (fun K hK => ?_)
      go_simp
      refine hK _ _ ?_
      clear hK K
      refine held_take 5 ((.slice (some ⟨gf, 0, none⟩) xs.length cf)) rfl (by kernel_rfl) (by kernel_rfl) (by kernel_rfl) (fun _ _ _ h => h) (Or.inl ⟨by rfl, fun x j => by have cl := CL.out _ j; go_simp⟩) k0 (fun K hK => ?_)
      go_simp
      refine hK _ _ ?_
      clear hK K
      refine held_take 7 (.agg (slV x)) rfl (by kernel_rfl) (by kernel_rfl) (by kernel_rfl) (fun _ _ _ h => h) (yields_load LH.out rfl rfl rfl) k0 (fun K hK => ?_)
      go_simp
      refine hK _ _ ?_
      clear hK K
      refine held_two 1 8 (by kernel_rfl) (fun K hK => wpOp_in rfl rfl ?_) (fun K hK => wpOp_in rfl rfl ?_)
      · go_simp
        have k1 := k0.alloc (Nat.le_trans HM.out k0.size) (.cells #[] 39)
        refine hK _ _ k1 ?_
        clear hK K
        have own := World.ownsRow_made (base := M) (e := 39) (size := 38) z0 #[] 0 (Nat.le_trans HM.out k0.size) (Nat.zero_le _) rfl
        have s4 : z0.heap.size < (z0.alloc (.cells #[] 39)).heap.size := by simp
        clear k0
        generalize z0.alloc (.cells #[] 39) = z1 at k1 own s4 ⊢
        generalize z0.heap.size = g4 at own s4 ⊢
        refine held_two 6 8 (by kernel_rfl) (fun K hK => wpOp_in rfl rfl ?_) (fun K hK => wpOp_in rfl rfl ?_)
        · refine op_appendB rfl rfl own rfl (slsL_len OK.out) (fun j u hj => (OWN.out _ k1).cells rfl j u hj) (slsL_one xs) (by omega) (Nat.le_trans HM.out k1.size) ?_
          intro v6 z2 own6 hgr
          have k2 := k1.grown hgr (Nat.le_trans HM.out k1.size) fun k hk => (own.lt k hk).1
          refine hK _ _ k2 ?_
          clear hK K
          replace own6 : z2.ownsRow M 39 38 v6 xs.length (slsL xs) := by simpa using own6
          clear own hgr k1
          refine held_one 8 (by kernel_rfl) (fun K hK => wpOp_in rfl rfl ?_)
          refine op_built1 ok rfl rfl ?_
          have k3 := k2.alloc (Nat.le_trans HM.out k2.size) (.cells (slV x) 39)
          refine hK _ _ k3 ?_
          clear hK K
          have x8 := At.new z2 39 (slV x)
          replace own6 := own6.alloc (.cells (slV x) 39)
          clear k2
          generalize z2.alloc (.cells (slV x) 39) = z3 at k3 x8 own6 ⊢
          generalize z2.heap.size = g8 at x8 ⊢
          refine held_one 9 (by kernel_rfl) (fun K hK => wpOp_in rfl rfl ?_)
          refine op_appendB rfl rfl own6 rfl (by rw [slL_len ok.dig.len]) (fun j u hj => by rw [add_at, Nat.zero_add, x8.cell]; simpa [slV] using hj) (slL_one x) (by omega) (Nat.le_trans HM.out k3.size) ?_
          intro v9 z9 own9 hgr
          have k9 := k3.grown hgr (Nat.le_trans HM.out k3.size) fun k hk => (own6.lt k hk).1
          refine hK _ _ k9 ?_
          clear hK K
          have own10 : z9.ownsRow M 39 38 v9 (xs ++ [x]).length (slsL (xs ++ [x])) := by rw [slsL_snoc, List.length_append]; exact own9
          clear own9 own6 x8 hgr k3
          refine held_take 10 (.pointer (some ⟨r, 0, none⟩)) rfl (by kernel_rfl) (by kernel_rfl) (by kernel_rfl) (fun _ _ _ h => h) (Or.inl ⟨by rfl, fun x j => by go_simp⟩) k9 (fun K hK => ?_)
          go_simp
          refine hK _ _ ?_
          clear hK K
          refine held_take 11 (.pointer (some ⟨r, 1, none⟩)) rfl (by kernel_rfl) (by kernel_rfl) (by kernel_rfl) (fun _ _ _ h => h) (Or.inl ⟨by rfl, fun x j => by go_simp⟩) k9 (fun K hK => ?_)
          go_simp
          refine hK _ _ ?_
          clear hK K
          refine wpAnyH_done (by kernel_rfl) ?_ _
          replace own10 := owns_mono own10 MB.out
          have h := H.out _ k9
          have c1 : z9.cell? ⟨r, 1, none⟩ = some (.slice (some ⟨gf, 0, none⟩) xs.length cf) := h.at.cell 1
          have f1 := h.at.frozen 1
          have h4 := h.set (v' := v9) (L' := L) 1 v9 rfl
          replace own10 := (h.kset 1 v9).owns own10
          clear k9 CL LH H OWN
          obtain ⟨g9, n9, cap9, rfl⟩ : ∃ g n c, v9 = .slice g n c := by
            rcases own10.2 with ⟨rfl, _⟩ | ⟨g, cap, cur, rfl, _⟩
            · exact ⟨_, _, _, rfl⟩
            · exact ⟨_, _, _, rfl⟩
          refine last_turn rfl rfl ?_
          go_simp
          clear h c1 f1
          generalize z9.setCell ⟨r, 1, none⟩ (.slice g9 n9 cap9) = y at h4 own10 ⊢
          have c3 : y.cell? ⟨r, 3, none⟩ = some (.int .i64 L.b) := h4.at.cell 3
          have f3 := h4.at.frozen 3
          have h5 := h4.set (v' := .slice g9 n9 cap9) (L' := { L with n := L.n + 1, b := L.b + (s.size : Int) }) 3 (.int .i64 (L.b + (s.size : Int))) rfl
          replace own10 := (h4.kset 3 (.int .i64 (L.b + (s.size : Int)))).owns own10
          clear h4
          go_wp2
          go_ret
          exact ⟨rfl, _, xs ++ [x], h5, own10, fun y hy => (List.mem_append.1 hy).elim (OK.out y) fun c => by simp at c; subst c; exact ok, by rw [List.length_append]; simp; exact HN.out⟩
        · refine op_built1 ok rfl rfl ?_
          have k2 := k1.alloc (Nat.le_trans HM.out k1.size) (.cells (slV x) 39)
          refine hK _ _ k2 ?_
          clear hK K
          have x8 := At.new z1 39 (slV x)
          have n48 : g4 < z1.heap.size := s4
          replace own := own.alloc (.cells (slV x) 39)
          clear k1 s4
          generalize z1.alloc (.cells (slV x) 39) = z2 at k2 x8 own ⊢
          generalize z1.heap.size = g8 at x8 n48 ⊢
          refine held_one 6 (by kernel_rfl) (fun K hK => wpOp_in rfl rfl ?_)
          refine op_appendB rfl rfl own rfl (slsL_len OK.out) (fun j u hj => (OWN.out _ k2).cells rfl j u hj) (slsL_one xs) (by omega) (Nat.le_trans HM.out k2.size) ?_
          intro v6 z3 own6 hgr
          have k3 := k2.grown hgr (Nat.le_trans HM.out k2.size) fun k hk => (own.lt k hk).1
          refine hK _ _ k3 ?_
          clear hK K
          replace x8 := x8.same ((show z2.grownBy z3 (some g4) from hgr).block g8 x8.lt fun e => by injection e with e; omega)
          replace own6 : z3.ownsRow M 39 38 v6 xs.length (slsL xs) := by simpa using own6
          clear own hgr k2
          refine held_one 9 (by kernel_rfl) (fun K hK => wpOp_in rfl rfl ?_)
          refine op_appendB rfl rfl own6 rfl (by rw [slL_len ok.dig.len]) (fun j u hj => by rw [add_at, Nat.zero_add, x8.cell]; simpa [slV] using hj) (slL_one x) (by omega) (Nat.le_trans HM.out k3.size) ?_
          intro v9 z9 own9 hgr
          have k9 := k3.grown hgr (Nat.le_trans HM.out k3.size) fun k hk => (own6.lt k hk).1
          refine hK _ _ k9 ?_
          clear hK K
          have own10 : z9.ownsRow M 39 38 v9 (xs ++ [x]).length (slsL (xs ++ [x])) := by rw [slsL_snoc, List.length_append]; exact own9
          clear own9 own6 x8 hgr k3
          refine held_take 10 (.pointer (some ⟨r, 0, none⟩)) rfl (by kernel_rfl) (by kernel_rfl) (by kernel_rfl) (fun _ _ _ h => h) (Or.inl ⟨by rfl, fun x j => by go_simp⟩) k9 (fun K hK => ?_)
          go_simp
          refine hK _ _ ?_
          clear hK K
          refine held_take 11 (.pointer (some ⟨r, 1, none⟩)) rfl (by kernel_rfl) (by kernel_rfl) (by kernel_rfl) (fun _ _ _ h => h) (Or.inl ⟨by rfl, fun x j => by go_simp⟩) k9 (fun K hK => ?_)
          go_simp
          refine hK _ _ ?_
          clear hK K
          refine wpAnyH_done (by kernel_rfl) ?_ _
          replace own10 := owns_mono own10 MB.out
          have h := H.out _ k9
          have c1 : z9.cell? ⟨r, 1, none⟩ = some (.slice (some ⟨gf, 0, none⟩) xs.length cf) := h.at.cell 1
          have f1 := h.at.frozen 1
          have h4 := h.set (v' := v9) (L' := L) 1 v9 rfl
          replace own10 := (h.kset 1 v9).owns own10
          clear k9 CL LH H OWN
          obtain ⟨g9, n9, cap9, rfl⟩ : ∃ g n c, v9 = .slice g n c := by
            rcases own10.2 with ⟨rfl, _⟩ | ⟨g, cap, cur, rfl, _⟩
            · exact ⟨_, _, _, rfl⟩
            · exact ⟨_, _, _, rfl⟩
          refine last_turn rfl rfl ?_
          go_simp
          clear h c1 f1
          generalize z9.setCell ⟨r, 1, none⟩ (.slice g9 n9 cap9) = y at h4 own10 ⊢
          have c3 : y.cell? ⟨r, 3, none⟩ = some (.int .i64 L.b) := h4.at.cell 3
          have f3 := h4.at.frozen 3
          have h5 := h4.set (v' := .slice g9 n9 cap9) (L' := { L with n := L.n + 1, b := L.b + (s.size : Int) }) 3 (.int .i64 (L.b + (s.size : Int))) rfl
          replace own10 := (h4.kset 3 (.int .i64 (L.b + (s.size : Int)))).owns own10
          clear h4
          go_wp2
          go_ret
          exact ⟨rfl, _, xs ++ [x], h5, own10, fun y hy => (List.mem_append.1 hy).elim (OK.out y) fun c => by simp at c; subst c; exact ok, by rw [List.length_append]; simp; exact HN.out⟩
      · refine op_built1 ok rfl rfl ?_
        have k1 := k0.alloc (Nat.le_trans HM.out k0.size) (.cells (slV x) 39)
        refine hK _ _ k1 ?_
        clear hK K
        have x8 := At.new z0 39 (slV x)
        clear k0
        generalize z0.alloc (.cells (slV x) 39) = z1 at k1 x8 ⊢
        generalize z0.heap.size = g8 at x8 ⊢
        refine held_one 1 (by kernel_rfl) (fun K hK => wpOp_in rfl rfl ?_)
        go_simp
        have k2 := k1.alloc (Nat.le_trans HM.out k1.size) (.cells #[] 39)
        refine hK _ _ k2 ?_
        clear hK K
        have own := World.ownsRow_made (base := M) (e := 39) (size := 38) z1 #[] 0 (Nat.le_trans HM.out k1.size) (Nat.zero_le _) rfl
        have n48 : g8 < z1.heap.size := x8.lt
        replace x8 := x8.alloc (.cells #[] 39)
        clear k1
        generalize z1.alloc (.cells #[] 39) = z2 at k2 own x8 ⊢
        generalize z1.heap.size = g4 at own n48 ⊢
        refine held_one 6 (by kernel_rfl) (fun K hK => wpOp_in rfl rfl ?_)
        refine op_appendB rfl rfl own rfl (slsL_len OK.out) (fun j u hj => (OWN.out _ k2).cells rfl j u hj) (slsL_one xs) (by omega) (Nat.le_trans HM.out k2.size) ?_
        intro v6 z3 own6 hgr
        have k3 := k2.grown hgr (Nat.le_trans HM.out k2.size) fun k hk => (own.lt k hk).1
        refine hK _ _ k3 ?_
        clear hK K
        replace x8 := x8.same ((show z2.grownBy z3 (some g4) from hgr).block g8 x8.lt fun e => by injection e with e; omega)
        replace own6 : z3.ownsRow M 39 38 v6 xs.length (slsL xs) := by simpa using own6
        clear own hgr k2
        refine held_one 9 (by kernel_rfl) (fun K hK => wpOp_in rfl rfl ?_)
        refine op_appendB rfl rfl own6 rfl (by rw [slL_len ok.dig.len]) (fun j u hj => by rw [add_at, Nat.zero_add, x8.cell]; simpa [slV] using hj) (slL_one x) (by omega) (Nat.le_trans HM.out k3.size) ?_
        intro v9 z9 own9 hgr
        have k9 := k3.grown hgr (Nat.le_trans HM.out k3.size) fun k hk => (own6.lt k hk).1
        refine hK _ _ k9 ?_
        clear hK K
        have own10 : z9.ownsRow M 39 38 v9 (xs ++ [x]).length (slsL (xs ++ [x])) := by rw [slsL_snoc, List.length_append]; exact own9
        clear own9 own6 x8 hgr k3
        refine held_take 10 (.pointer (some ⟨r, 0, none⟩)) rfl (by kernel_rfl) (by kernel_rfl) (by kernel_rfl) (fun _ _ _ h => h) (Or.inl ⟨by rfl, fun x j => by go_simp⟩) k9 (fun K hK => ?_)
        go_simp
        refine hK _ _ ?_
        clear hK K
        refine held_take 11 (.pointer (some ⟨r, 1, none⟩)) rfl (by kernel_rfl) (by kernel_rfl) (by kernel_rfl) (fun _ _ _ h => h) (Or.inl ⟨by rfl, fun x j => by go_simp⟩) k9 (fun K hK => ?_)
        go_simp
        refine hK _ _ ?_
        clear hK K
        refine wpAnyH_done (by kernel_rfl) ?_ _
        replace own10 := owns_mono own10 MB.out
        have h := H.out _ k9
        have c1 : z9.cell? ⟨r, 1, none⟩ = some (.slice (some ⟨gf, 0, none⟩) xs.length cf) := h.at.cell 1
        have f1 := h.at.frozen 1
        have h4 := h.set (v' := v9) (L' := L) 1 v9 rfl
        replace own10 := (h.kset 1 v9).owns own10
        clear k9 CL LH H OWN
        obtain ⟨g9, n9, cap9, rfl⟩ : ∃ g n c, v9 = .slice g n c := by
          rcases own10.2 with ⟨rfl, _⟩ | ⟨g, cap, cur, rfl, _⟩
          · exact ⟨_, _, _, rfl⟩
          · exact ⟨_, _, _, rfl⟩
        refine last_turn rfl rfl ?_
        go_simp
        clear h c1 f1
        generalize z9.setCell ⟨r, 1, none⟩ (.slice g9 n9 cap9) = y at h4 own10 ⊢
        have c3 : y.cell? ⟨r, 3, none⟩ = some (.int .i64 L.b) := h4.at.cell 3
        have f3 := h4.at.frozen 3
        have h5 := h4.set (v' := .slice g9 n9 cap9) (L' := { L with n := L.n + 1, b := L.b + (s.size : Int) }) 3 (.int .i64 (L.b + (s.size : Int))) rfl
        replace own10 := (h4.kset 3 (.int .i64 (L.b + (s.size : Int)))).owns own10
        clear h4
        go_wp2
        go_ret
        exact ⟨rfl, _, xs ++ [x], h5, own10, fun y hy => (List.mem_append.1 hy).elim (OK.out y) fun c => by simp at c; subst c; exact ok, by rw [List.length_append]; simp; exact HN.out⟩
theorem radd_any (h : HasQ w0 w u r E v L X) (pw : E.Pw) (ho : E.ops ≤ 1099511627776) (fit : L.Fits) (row : RowS w0 w v L xs) (hl : xs.length ≤ 200000) (x : Sp) (ok : Okay x) :
    Calls Tryz.prog 22 #[.pointer (some ⟨r, 0, none⟩), .agg (slV x)] w fun e w' => RAddPost w0 u r (addL E L x) X e w' := by
  cases hk : L.k with
  | true =>
    rw [addL_sick x hk]
    exact (radd_sick h x hk).mono fun e w' ⟨a, b, k⟩ => ⟨a, v, xs, b, k.owns row.own, row.ok, row.n⟩
  | false =>
    by_cases hx : Can x
    · cases hE : E.append dN (recB x) with
      | mk e1 E1 =>
      by_cases c : e1 = 0
      · subst c
        rw [addL_ok hk hx (by rw [hE]), hE]
        exact radd_ok h pw ho fit row hl x ok hx hk hE
      · rw [addL_fail hk hx (by rw [hE]; exact c), hE]
        refine (radd_fail h.slips pw ho x ok hx hk hE c).mono fun e w' ⟨a, b⟩ => ⟨a, v, xs, b.less fun y hy => List.mem_append_right _ hy, (rkp_of b.disk).owns row.own, row.ok, row.n⟩
    · rw [addL_no hk hx]
      exact (radd_no h x ok (canB_no hx) hk).mono fun e w' ⟨a, b, k⟩ => ⟨a, v, xs, b, k.owns row.own, row.ok, row.n⟩

/-! ### Sync -/
set_option maxHeartbeats 2000000 in
theorem rsync_sick (h : HasQ w0 w u r E v L X) (hk : L.k = true) :
    Calls Tryz.prog 24 #[.pointer (some ⟨r, 0, none⟩)] w fun e w' => e = .returned (.int .i64 8) ∧ HasQ w0 w' u r E v L X := by
  have c : w.cell? ⟨r, 4, none⟩ = some (.bool true) := by rw [← hk]; exact h.at.cell 4
  clear hk
  go_enter Tryz.func24, Tryz.ntmps24
  go_wp2
  go_ret
  exact ⟨rfl, h⟩
set_option maxHeartbeats 2000000 in
theorem rsync_none {g : Option Addr} {n c : Nat} (h : HasQ w0 w u r E (.slice g n c) L X) (hn : L.n = (n : Int)) (hk : L.k = false) (hs : L.s = L.n) :
    Calls Tryz.prog 24 #[.pointer (some ⟨r, 0, none⟩)] w fun e w' => e = .returned (.int .i64 0) ∧ HasQ w0 w' u r E (.slice g n c) L X := by
  have c4 : w.cell? ⟨r, 4, none⟩ = some (.bool false) := by rw [← hk]; exact h.at.cell 4
  have c1 : w.cell? ⟨r, 1, none⟩ = some (.slice g n c) := h.at.cell 1
  have c2 : w.cell? ⟨r, 2, none⟩ = some (.int .i64 (n : Int)) := by rw [← hn, ← hs]; exact h.at.cell 2
  clear hk hs hn
  go_enter Tryz.func24, Tryz.ntmps24
  go_upto_region 3 with (fail)
  go_quiet (fail)
  have h2 := h.drewN nq
  go_wp2
  go_ret
  exact ⟨rfl, h2⟩
set_option maxHeartbeats 2000000 in
theorem rsync_fail {g : Option Addr} {n c : Nat} (h : HasQ w0 w u r E (.slice g n c) L X) (pw : E.Pw) (ho : E.ops ≤ 1099511627776) (hn : L.n = (n : Int)) (hk : L.k = false) (hs : L.s ≠ L.n) {e1 : Int} {E1 : Dk} (hE : E.sync dN = (e1, E1)) (c1 : e1 ≠ 0) :
    Calls Tryz.prog 24 #[.pointer (some ⟨r, 0, none⟩)] w fun e w' => e = .returned (.int .i64 e1) ∧ HasQ w0 w' u r E1 (.slice g n c) { L with k := true } X := by
  have n1 : (e1 != 0) = true := by simpa using c1
  have C2 := Lib.hid fun z (h : HasQ w0 z u r E (.slice g n c) L X) => rh_sync h.d pw ho (s := dS) (by decide)
  rw [kl_dS, hE] at C2
  have ns : (L.s == (n : Int)) = false := by rw [← hn]; simpa using hs
  have ns2 : ¬ L.s = (n : Int) := by rw [← hn]; exact hs
  clear hE hs hn
  have c4 : w.cell? ⟨r, 4, none⟩ = some (.bool false) := by rw [← hk]; exact h.at.cell 4
  have d1 : w.cell? ⟨r, 1, none⟩ = some (.slice g n c) := h.at.cell 1
  have d2 : w.cell? ⟨r, 2, none⟩ = some (.int .i64 L.s) := h.at.cell 2
  go_enter Tryz.func24, Tryz.ntmps24
  go_upto_region 3 with (fail)
  go_quiet (fail)
  replace h := h.drewN nq
  clear c4 d1 d2
  generalize w.drewN nq = w1 at h ⊢
  have c0 : w1.cell? ⟨r, 0, none⟩ = some (.pointer (some ⟨u, 0, none⟩)) := h.at.cell 0
  go_wp2_with fail
  refine (C2.out w1 h).mono ?_
  rintro e w3 ⟨rfl, h3⟩
  clear c0
  replace h : HasQ w0 w3 u r E1 (.slice g n c) L X := ⟨h3, h.hq, h.hx⟩
  have c4 : w3.cell? ⟨r, 4, none⟩ = some (.bool false) := by rw [← hk]; exact h.at.cell 4
  have f4 := h.at.frozen 4
  have h5 := h.set (v' := .slice g n c) (L' := { L with k := true }) 4 (.bool true) rfl
  clear C2 hk h h3
  go_wp2
  go_ret
  exact ⟨rfl, h5⟩
set_option maxHeartbeats 2000000 in
theorem rsync_ok {g : Option Addr} {n c : Nat} (h : HasQ w0 w u r E (.slice g n c) L X) (pw : E.Pw) (ho : E.ops ≤ 1099511627776) (hn : L.n = (n : Int)) (hk : L.k = false) (hs : L.s ≠ L.n) {E1 : Dk} (hE : E.sync dN = (0, E1)) :
    Calls Tryz.prog 24 #[.pointer (some ⟨r, 0, none⟩)] w fun e w' => e = .returned (.int .i64 0) ∧ HasQ w0 w' u r E1 (.slice g n c) { L with s := L.n } X := by
  have C2 := Lib.hid fun z (h : HasQ w0 z u r E (.slice g n c) L X) => rh_sync h.d pw ho (s := dS) (by decide)
  rw [kl_dS, hE] at C2
  have ns : (L.s == (n : Int)) = false := by rw [← hn]; simpa using hs
  have ns2 : ¬ L.s = (n : Int) := by rw [← hn]; exact hs
  have HN := Lib.hid hn
  clear hE hs hn
  have c4 : w.cell? ⟨r, 4, none⟩ = some (.bool false) := by rw [← hk]; exact h.at.cell 4
  have d1 : w.cell? ⟨r, 1, none⟩ = some (.slice g n c) := h.at.cell 1
  have d2 : w.cell? ⟨r, 2, none⟩ = some (.int .i64 L.s) := h.at.cell 2
  go_enter Tryz.func24, Tryz.ntmps24
  go_upto_region 3 with (fail)
  go_quiet (fail)
  replace h := h.drewN nq
  clear c4 d1 d2
  generalize w.drewN nq = w1 at h ⊢
  have c0 : w1.cell? ⟨r, 0, none⟩ = some (.pointer (some ⟨u, 0, none⟩)) := h.at.cell 0
  go_wp2_with fail
  refine (C2.out w1 h).mono ?_
  rintro e w3 ⟨rfl, h3⟩
  clear c0
  replace h : HasQ w0 w3 u r E1 (.slice g n c) L X := ⟨h3, h.hq, h.hx⟩
  have c1 : w3.cell? ⟨r, 1, none⟩ = some (.slice g n c) := h.at.cell 1
  have c2 : w3.cell? ⟨r, 2, none⟩ = some (.int .i64 L.s) := h.at.cell 2
  have f2 := h.at.frozen 2
  have h5 := h.set (v' := .slice g n c) (L' := { L with s := (n : Int) }) 2 (.int .i64 (n : Int)) rfl
  clear C2 hk h h3
  go_wp2
  go_ret
  have e5 : ({ L with s := L.n } : Lg) = { L with s := (n : Int) } := congrArg (fun t => ({ L with s := t } : Lg)) HN.out
  exact ⟨rfl, by rw [e5]; exact h5⟩
theorem rsync_any (h : HasQ w0 w u r E v L X) (pw : E.Pw) (ho : E.ops ≤ 1099511627776) (row : RowS w0 w v L xs) :
    Calls Tryz.prog 24 #[.pointer (some ⟨r, 0, none⟩)] w fun e w' => e = .returned (.int .i64 (syncL E L).1) ∧ HasQ w0 w' u r (syncL E L).2.1 v (syncL E L).2.2 X := by
  obtain ⟨g, c, rfl⟩ := row.form
  cases hk : L.k with
  | true => rw [syncL_sick hk]; exact rsync_sick h hk
  | false =>
    by_cases hs : L.s = L.n
    · rw [syncL_none hk hs]; exact rsync_none h row.n hk hs
    · cases hE : E.sync dN with
      | mk e1 E1 =>
      by_cases c : e1 = 0
      · subst c
        rw [syncL_ok hk hs (by rw [hE]), hE]
        exact rsync_ok h pw ho row.n hk hs hE
      · rw [syncL_fail hk hs (by rw [hE]; exact c), hE]
        exact rsync_fail h pw ho row.n hk hs hE c
end
end Go.Proofs.YtdmgobffhpgjlaaGreat.Sl.Dg
