/-
  SlipWrites, walked.
-/
import Derived.Test.YtahalddoloppmaaSlRef2
import Derived.Test.YtahalddoloppmaaSlAwake
import Derived.Test.YtahalddoloppmaaSlOpen
namespace Go.Proofs.Ytahalddoloppmaa.Sl
open Go.RowKit Go.PlainAid Go.Proofs.Ytahalddoloppmaa.Cr
set_option linter.unusedVariables false
set_option linter.unusedSimpArgs false

/-- what the law holds: its slip -/
structure Sw (w0 w : World) (B : Nat) (x : Sp) : Prop where
  box : At w B 25 (slV x)
  bel : Below w0.heap.size w0 w
theorem Sw.below {w0 w w' : World} {B : Nat} {x : Sp} (h : Sw w0 w B x) (hb : Below w.heap.size w w') : Sw w0 w' B x := ⟨h.box.old hb, h.bel.trans (hb.mono h.bel.size)⟩
theorem Sw.drew {w0 w : World} {B : Nat} {x : Sp} (h : Sw w0 w B x) : Sw w0 w.drew B x := h.below ((Below.refl _ _).drew)
set_option maxRecDepth 100000 in
set_option maxHeartbeats 2000000 in
theorem writes_great (x : Sp) {w : World} (ok : Okay x) (hg : greatB x = true) :
    Calls Try.prog 3 #[.agg (slV x)] w fun e w' => e = .returned (.bool true) ∧ Below w.heap.size w w' := by
  have X := At.new w 25 (slV x)
  have F : Below w.heap.size w (w.alloc (.cells (slV x) 25)) := (Below.refl _ _).alloc (Nat.le_refl _) _
  go_enter Try.func3, Try.ntmps3
  go_upto_region 1 with (fail)
  generalize w.alloc (.cells (slV x) 25) = w1 at F X ⊢
  obtain ⟨B, hB⟩ : ∃ B, B = w.heap.size := ⟨_, rfl⟩
  rw [← hB] at X ⊢
  clear hB
  go_wp2_with fail
  refine (awake_any _).mono ?_
  rintro e w2 ⟨rfl, G1⟩
  replace F := F.trans (G1.mono F.size)
  replace X := X.old G1
  clear G1
  have LX := sl_loads X ok.dig.len
  go_wp2_with (refine wpl_load_in LX rfl rfl rfl ?_)
  refine (great_any x _ ok).mono ?_
  rintro e w3 ⟨rfl, G1⟩
  rw [hg]
  replace F := F.trans (G1.mono F.size)
  replace X := X.old G1
  clear G1 LX
  go_wp2
  go_ret
  exact ⟨rfl, F⟩
set_option maxRecDepth 100000 in
set_option maxHeartbeats 2000000 in
theorem writes_no (x : Sp) {w : World} (ok : Okay x) (hg : greatB x = false) (hc : ¬ Can x) :
    Calls Try.prog 3 #[.agg (slV x)] w fun e w' => e = .returned (.bool true) ∧ Below w.heap.size w w' := by
  have X := At.new w 25 (slV x)
  have F : Below w.heap.size w (w.alloc (.cells (slV x) 25)) := (Below.refl _ _).alloc (Nat.le_refl _) _
  go_enter Try.func3, Try.ntmps3
  go_upto_region 1 with (fail)
  generalize w.alloc (.cells (slV x) 25) = w1 at F X ⊢
  obtain ⟨B, hB⟩ : ∃ B, B = w.heap.size := ⟨_, rfl⟩
  rw [← hB] at X ⊢
  clear hB
  go_wp2_with fail
  refine (awake_any _).mono ?_
  rintro e w2 ⟨rfl, G1⟩
  replace F := F.trans (G1.mono F.size)
  replace X := X.old G1
  clear G1
  have LX := sl_loads X ok.dig.len
  go_wp2_with (refine wpl_load_in LX rfl rfl rfl ?_)
  refine (great_any x _ ok).mono ?_
  rintro e w3 ⟨rfl, G1⟩
  rw [hg]
  replace F := F.trans (G1.mono F.size)
  replace X := X.old G1
  clear G1 LX
  have LX := sl_loads X ok.dig.len
  go_wp2_with (refine wpl_load_in LX rfl rfl rfl ?_)
  refine (write_no x _ ok hc).mono ?_
  rintro e w4 ⟨rfl, G1⟩
  have J0 : Sw w w4 B x := ⟨X.old G1, F.trans (G1.mono F.size)⟩
  clear G1 LX X F
  have hcb : canB x = false := canB_no hc
  go_upto_region 6 with (fail)
  refine wp_region_held (S := fun z => Sw w z B x) (by kernel_rfl) ?_
  change wpAnyH _ _ _ _ _ _ _ _ w4.drew
  replace J0 := J0.drew
  generalize w4.drew = w5 at J0 ⊢
  have LX : Hid (∀ z, Sw w z B x → Loads Try.prog z 25 ⟨B, 0, none⟩ (slV x)) := Lib.hid fun z j => sl_loads j.box ok.dig.len
  refine held_take 0 (.agg (slV x)) rfl (by kernel_rfl) (by kernel_rfl) (by kernel_rfl) (fun _ _ _ h => h) (yields_load LX.out rfl rfl rfl) J0 (fun K hK => ?_)
  go_simp
  refine hK _ _ ?_
  clear hK K
  refine held_take 2 (.agg (slV x)) rfl (by kernel_rfl) (by kernel_rfl) (by kernel_rfl) (fun _ _ _ h => h) (yields_load LX.out rfl rfl rfl) J0 (fun K hK => ?_)
  go_simp
  refine hK _ _ ?_
  clear hK K
  refine held_one 1 (by kernel_rfl) (fun K hK => wpOp_in rfl rfl ?_)
  go_simp
  refine (good_any x _ ok).mono ?_
  rintro e v1 ⟨rfl, hb⟩
  have J1 := J0.below hb
  rw [hcb]
  refine hK _ _ J1 ?_
  clear hb J0
  clear hK K
  refine held_one 3 (by kernel_rfl) (fun K hK => wpOp_in rfl rfl ?_)
  go_simp
  refine (rgood_any x _ ok).mono ?_
  rintro e v2 ⟨rfl, hb⟩
  have J2 := J1.below hb
  rw [hcb]
  refine hK _ _ J2 ?_
  clear hb J1
  clear hK K
  refine held_take 4 (.bool false) rfl (by kernel_rfl) (by kernel_rfl) (by kernel_rfl) (fun _ _ _ h => h) (Or.inl ⟨by rfl, fun x j => by go_simp⟩) J2 (fun K hK => ?_)
  go_simp
  refine hK _ _ ?_
  clear hK K
  refine wpAnyH_done (by kernel_rfl) ?_ _
  have LXX := LX.out _ J2
  go_wp2_with (refine wpl_load_in LXX rfl rfl rfl ?_)
  refine (rgood_any x _ ok).mono ?_
  rintro e v3 ⟨rfl, hb⟩
  have J3 := J2.below hb
  rw [hcb]
  clear hb J2 LXX
  go_wp2
  go_ret
  exact ⟨rfl, J3.bel⟩
set_option maxRecDepth 100000 in
set_option maxHeartbeats 2000000 in
theorem writes_yes (x : Sp) {w : World} (ok : Okay x) (hg : greatB x = false) (hc : Can x) :
    Calls Try.prog 3 #[.agg (slV x)] w fun e w' => e = .returned (.bool true) ∧ Below w.heap.size w w' := by
  have X := At.new w 25 (slV x)
  have F : Below w.heap.size w (w.alloc (.cells (slV x) 25)) := (Below.refl _ _).alloc (Nat.le_refl _) _
  go_enter Try.func3, Try.ntmps3
  go_upto_region 1 with (fail)
  generalize w.alloc (.cells (slV x) 25) = w1 at F X ⊢
  obtain ⟨B, hB⟩ : ∃ B, B = w.heap.size := ⟨_, rfl⟩
  rw [← hB] at X ⊢
  clear hB
  go_wp2_with fail
  refine (awake_any _).mono ?_
  rintro e w2 ⟨rfl, G1⟩
  replace F := F.trans (G1.mono F.size)
  replace X := X.old G1
  clear G1
  have LX := sl_loads X ok.dig.len
  go_wp2_with (refine wpl_load_in LX rfl rfl rfl ?_)
  refine (great_any x _ ok).mono ?_
  rintro e w3 ⟨rfl, G1⟩
  rw [hg]
  replace F := F.trans (G1.mono F.size)
  replace X := X.old G1
  clear G1 LX
  have LX := sl_loads X ok.dig.len
  go_wp2_with (refine wpl_load_in LX rfl rfl rfl ?_)
  refine (write_yes x _ ok hc).mono ?_
  rintro e w4 ⟨rfl, G1⟩
  have J0 : Sw w w4 B x := ⟨X.old G1, F.trans (G1.mono F.size)⟩
  clear G1 LX X F
  have hcb : canB x = true := canB_yes hc
  obtain ⟨so, hso⟩ : ∃ so, so = strOf (recL (bodyL x)) := ⟨_, rfl⟩
  rw [← hso]
  have HSO := Lib.hid hso
  clear hso
  go_upto_region 6 with (fail)
  refine wp_region_held (S := fun z => Sw w z B x) (by kernel_rfl) ?_
  change wpAnyH _ _ _ _ _ _ _ _ w4.drew
  replace J0 := J0.drew
  generalize w4.drew = w5 at J0 ⊢
  have LX : Hid (∀ z, Sw w z B x → Loads Try.prog z 25 ⟨B, 0, none⟩ (slV x)) := Lib.hid fun z j => sl_loads j.box ok.dig.len
  refine held_take 0 (.agg (slV x)) rfl (by kernel_rfl) (by kernel_rfl) (by kernel_rfl) (fun _ _ _ h => h) (yields_load LX.out rfl rfl rfl) J0 (fun K hK => ?_)
  go_simp
  refine hK _ _ ?_
  clear hK K
  refine held_take 2 (.agg (slV x)) rfl (by kernel_rfl) (by kernel_rfl) (by kernel_rfl) (fun _ _ _ h => h) (yields_load LX.out rfl rfl rfl) J0 (fun K hK => ?_)
  go_simp
  refine hK _ _ ?_
  clear hK K
  refine held_one 1 (by kernel_rfl) (fun K hK => wpOp_in rfl rfl ?_)
  go_simp
  refine (good_any x _ ok).mono ?_
  rintro e v1 ⟨rfl, hb⟩
  have J1 := J0.below hb
  rw [hcb]
  refine hK _ _ J1 ?_
  clear hb J0
  clear hK K
  refine held_one 3 (by kernel_rfl) (fun K hK => wpOp_in rfl rfl ?_)
  go_simp
  refine (rgood_any x _ ok).mono ?_
  rintro e v2 ⟨rfl, hb⟩
  have J2 := J1.below hb
  rw [hcb]
  refine hK _ _ J2 ?_
  clear hb J1
  clear hK K
  refine held_take 4 (.bool false) rfl (by kernel_rfl) (by kernel_rfl) (by kernel_rfl) (fun _ _ _ h => h) (Or.inl ⟨by rfl, fun x j => by go_simp⟩) J2 (fun K hK => ?_)
  go_simp
  refine hK _ _ ?_
  clear hK K
  refine wpAnyH_done (by kernel_rfl) ?_ _
  have LXX := LX.out _ J2
  go_wp2_with (refine wpl_load_in LXX rfl rfl rfl ?_)
  refine (rgood_any x _ ok).mono ?_
  rintro e v3 ⟨rfl, hb⟩
  have J3 := J2.below hb
  rw [hcb]
  clear hb J2 LXX
  have hbl : bl (strOf (bodyL x)) = bodyL x := bl_strOf (body_lt ok.dig)
  have hbz : (strOf (bodyL x)).size ≤ 1000000 := by rw [strOf_size]; have := (body_len hc).2; omega
  have LXX := LX.out _ J3
  go_wp2_with (refine wpl_load_in LXX rfl rfl rfl ?_)
  refine (rbody_any x _ hc).mono ?_
  rintro e v4 ⟨rfl, hb⟩
  have J4 := J3.below hb
  clear hb LXX J3
  go_wp2_with fail
  refine (framed_any _ _ hbz).mono ?_
  rintro e v5 ⟨rfl, hb⟩
  rw [hbl, ← HSO.out]
  have J5 := J4.below hb
  clear hb J4
  go_wp2
  go_ret
  exact ⟨rfl, J5.bel⟩
theorem writes_walk (x : Sp) {w : World} (ok : Okay x) :
    Calls Try.prog 3 #[.agg (slV x)] w fun e w' => e = .returned (.bool true) ∧ Below w.heap.size w w' := by
  cases hg : greatB x with
  | true => exact writes_great x ok hg
  | false =>
    by_cases hc : Can x
    · exact writes_yes x ok hg hc
    · exact writes_no x ok hg hc
end Go.Proofs.Ytahalddoloppmaa.Sl
