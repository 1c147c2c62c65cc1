/-
  Contracts of Good and Print of package field.
-/
import Derived.Test.YtdldoklkenhopaaDoorFiParse
namespace Go.Proofs.YtdldoklkenhopaaDoor.Fi
open Go.RowKit Go.PlainAid
open Hx
set_option linter.unusedVariables false
set_option maxRecDepth 20000
set_option linter.unusedSimpArgs false

/-- one field of the call's own -/
structure One (w x : World) (B : Nat) (f : Fd) : Prop where
  a : At x B 26 (fdV f)
  bel : Below w.heap.size w x
theorem One.below {w x y : World} {B : Nat} {f : Fd} (i : One w x B f) (hb : Below x.heap.size x y) : One w y B f := ⟨i.a.old hb, i.bel.trans (hb.mono i.bel.size)⟩
theorem One.drew {w x : World} {B : Nat} {f : Fd} (i : One w x B f) : One w x.drew B f := i.below ((Below.refl _ _).drew)
theorem One.new (w : World) (f : Fd) : One w (w.alloc (.cells (fdV f) 26)) w.heap.size f := ⟨At.new w _ _, (Below.refl _ _).alloc (Nat.le_refl _) _⟩
theorem One.c0 {w x : World} {B : Nat} {f : Fd} (i : One w x B f) : x.cell? ⟨B, 0, none⟩ = some (.string f.n) := i.a.cell 0
theorem One.c1 {w x : World} {B : Nat} {f : Fd} (i : One w x B f) : x.cell? ⟨B, 1, none⟩ = some (.string f.v) := i.a.cell 1
theorem print_any (f : Fd) (w : World) (hn : f.n.size ≤ 140737488355328) (hv : f.v.size ≤ 140737488355328) :
    Calls Tryd.prog 31 #[.agg (fdV f)] w fun e w' => e = .returned (.string (tx (printF f))) ∧ Below w.heap.size w w' := by
  have J := One.new w f
  have hp : f.n ++ (⟨#[58, 32]⟩ : ByteArray) ++ f.v = tx (printF f) := ls_inj (by rw [ls_append, ls_append, ls_tx]; rfl)
  have HP := Lib.hid hp
  clear hp
  have z1 : (⟨#[58, 32]⟩ : ByteArray).size = 2 := rfl
  go_enter Tryd.func31, Tryd.ntmps31
  go_upto_region 1 with (fail)
  generalize w.alloc (.cells (fdV f) 26) = X at J ⊢
  have c0 := J.c0
  have c1 := J.c1
  go_wp2
  go_ret
  exact ⟨by rw [← HP.out]; rfl, J.bel⟩
open Classical in
theorem good_bool (f : Fd) : goodF f = (if isTok (ls f.n) = true then (if isTxt (ls f.v) = true then (f.v.toList == (tx (trimT (ls f.v))).toList) else false) else false) := by
  unfold goodF
  have e : (trimT (ls f.v) == ls f.v) = (f.v.toList == (tx (trimT (ls f.v))).toList) := by
    rw [ls_toList, ls_toList, ls_tx, Bool.eq_iff_iff, beq_iff_eq, beq_iff_eq]
    exact eq_comm
  rw [e]
  cases isTok (ls f.n) <;> cases isTxt (ls f.v) <;> simp
set_option maxHeartbeats 1000000 in
theorem good_a (f : Fd) (w : World) (hn : f.n.size ≤ 140737488355328) (hv : f.v.size ≤ 140737488355328) (h : isTok (ls f.n) = false) :
    Calls Tryd.prog 46 #[.agg (fdV f)] w fun e w' => e = .returned (.bool false) ∧ Below w.heap.size w w' := by
  have J := One.new w f
  have tk := fun w => isToken_any f.n w (by omega)
  have tt := fun w => texts_any f.v w (by omega)
  have tr := fun w => trim_any f.v w (by omega)
  rw [h] at tk
  clear h
  go_enter Tryd.func46, Tryd.ntmps46
  go_upto_region 1 with (fail)
  generalize w.alloc (.cells (fdV f) 26) = X at J ⊢
  generalize w.heap.size = B at J ⊢
  refine wp_region_held (S := fun x => One w x B f) (by kernel_rfl) ?_
  change wpAnyH _ _ _ _ _ _ _ _ X.drew
  have J1 := J.drew
  clear J
  generalize X.drew = w4 at J1 ⊢
  refine held_take 0 (.pointer (some ⟨B, 0, none⟩)) rfl (by kernel_rfl) (by kernel_rfl) (by kernel_rfl) (fun _ _ _ h => h) (Or.inl ⟨by rfl, fun x j => by go_simp⟩) J1 (fun K hK => ?_)
  go_simp
  refine hK _ _ ?_
  clear hK K
  refine held_take 1 (.string f.n) rfl (by kernel_rfl) (by kernel_rfl) (by kernel_rfl) (fun _ _ _ h => h) (Or.inl ⟨by rfl, fun x j => by (have c := j.c0; go_simp)⟩) J1 (fun K hK => ?_)
  go_simp
  refine hK _ _ ?_
  clear hK K
  refine held_one 2 (by kernel_rfl) (fun K hK => wpOp_in rfl rfl ?_)
  go_simp
  refine (tk _).mono ?_
  rintro e w5 ⟨rfl, rfl⟩
  refine hK _ _ J1 ?_
  clear hK K
  refine held_take 3 (.bool false) rfl (by kernel_rfl) (by kernel_rfl) (by kernel_rfl) (fun _ _ _ h => h) (Or.inl ⟨by rfl, fun x j => by go_simp⟩) J1 (fun K hK => ?_)
  go_simp
  refine hK _ _ ?_
  clear hK K
  refine held_take 4 (undef) rfl (by kernel_rfl) (by kernel_rfl) (by kernel_rfl) (fun _ _ _ h => h) (Or.inr ⟨by rfl, rfl⟩) J1 (fun K hK => ?_)
  go_simp
  refine hK _ _ ?_
  clear hK K
  refine held_take 5 (undef) rfl (by kernel_rfl) (by kernel_rfl) (by kernel_rfl) (fun _ _ _ h => h) (Or.inr ⟨by rfl, rfl⟩) J1 (fun K hK => ?_)
  go_simp
  refine hK _ _ ?_
  clear hK K
  refine held_take 6 (undef) rfl (by kernel_rfl) (by kernel_rfl) (by kernel_rfl) (fun _ _ _ h => h) (Or.inr ⟨by rfl, rfl⟩) J1 (fun K hK => ?_)
  go_simp
  refine hK _ _ ?_
  clear hK K
  refine held_take 7 (.bool false) rfl (by kernel_rfl) (by kernel_rfl) (by kernel_rfl) (fun _ _ _ h => h) (Or.inl ⟨by rfl, fun x j => by go_simp⟩) J1 (fun K hK => ?_)
  go_simp
  refine hK _ _ ?_
  clear hK K
  refine held_take 8 (.bool false) rfl (by kernel_rfl) (by kernel_rfl) (by kernel_rfl) (fun _ _ _ h => h) (Or.inl ⟨by rfl, fun x j => by go_simp⟩) J1 (fun K hK => ?_)
  go_simp
  refine hK _ _ ?_
  clear hK K
  refine held_take 9 (undef) rfl (by kernel_rfl) (by kernel_rfl) (by kernel_rfl) (fun _ _ _ h => h) (Or.inr ⟨by rfl, rfl⟩) J1 (fun K hK => ?_)
  go_simp
  refine hK _ _ ?_
  clear hK K
  refine held_take 10 (undef) rfl (by kernel_rfl) (by kernel_rfl) (by kernel_rfl) (fun _ _ _ h => h) (Or.inr ⟨by rfl, rfl⟩) J1 (fun K hK => ?_)
  go_simp
  refine hK _ _ ?_
  clear hK K
  refine held_take 11 (undef) rfl (by kernel_rfl) (by kernel_rfl) (by kernel_rfl) (fun _ _ _ h => h) (Or.inr ⟨by rfl, rfl⟩) J1 (fun K hK => ?_)
  go_simp
  refine hK _ _ ?_
  clear hK K
  refine held_take 12 (undef) rfl (by kernel_rfl) (by kernel_rfl) (by kernel_rfl) (fun _ _ _ h => h) (Or.inr ⟨by rfl, rfl⟩) J1 (fun K hK => ?_)
  go_simp
  refine hK _ _ ?_
  clear hK K
  refine held_take 13 (undef) rfl (by kernel_rfl) (by kernel_rfl) (by kernel_rfl) (fun _ _ _ h => h) (Or.inr ⟨by rfl, rfl⟩) J1 (fun K hK => ?_)
  go_simp
  refine hK _ _ ?_
  clear hK K
  refine held_take 14 (undef) rfl (by kernel_rfl) (by kernel_rfl) (by kernel_rfl) (fun _ _ _ h => h) (Or.inr ⟨by rfl, rfl⟩) J1 (fun K hK => ?_)
  go_simp
  refine hK _ _ ?_
  clear hK K
  refine held_take 15 (.bool false) rfl (by kernel_rfl) (by kernel_rfl) (by kernel_rfl) (fun _ _ _ h => h) (Or.inl ⟨by rfl, fun x j => by go_simp⟩) J1 (fun K hK => ?_)
  go_simp
  refine hK _ _ ?_
  clear hK K
  refine held_take 16 (.bool false) rfl (by kernel_rfl) (by kernel_rfl) (by kernel_rfl) (fun _ _ _ h => h) (Or.inl ⟨by rfl, fun x j => by go_simp⟩) J1 (fun K hK => ?_)
  go_simp
  refine hK _ _ ?_
  clear hK K
  refine wpAnyH_done (by kernel_rfl) ?_ _
  go_wp2
  go_ret
  exact ⟨rfl, J1.bel⟩
set_option maxHeartbeats 1000000 in
theorem good_b (f : Fd) (w : World) (hn : f.n.size ≤ 140737488355328) (hv : f.v.size ≤ 140737488355328) (h : isTok (ls f.n) = true) (h2 : isTxt (ls f.v) = false) :
    Calls Tryd.prog 46 #[.agg (fdV f)] w fun e w' => e = .returned (.bool false) ∧ Below w.heap.size w w' := by
  have J := One.new w f
  have tk := fun w => isToken_any f.n w (by omega)
  have tt := fun w => texts_any f.v w (by omega)
  have tr := fun w => trim_any f.v w (by omega)
  rw [h] at tk
  rw [h2] at tt
  clear h h2
  go_enter Tryd.func46, Tryd.ntmps46
  go_upto_region 1 with (fail)
  generalize w.alloc (.cells (fdV f) 26) = X at J ⊢
  generalize w.heap.size = B at J ⊢
  refine wp_region_held (S := fun x => One w x B f) (by kernel_rfl) ?_
  change wpAnyH _ _ _ _ _ _ _ _ X.drew
  have J1 := J.drew
  clear J
  generalize X.drew = w4 at J1 ⊢
  refine held_take 0 (.pointer (some ⟨B, 0, none⟩)) rfl (by kernel_rfl) (by kernel_rfl) (by kernel_rfl) (fun _ _ _ h => h) (Or.inl ⟨by rfl, fun x j => by go_simp⟩) J1 (fun K hK => ?_)
  go_simp
  refine hK _ _ ?_
  clear hK K
  refine held_take 1 (.string f.n) rfl (by kernel_rfl) (by kernel_rfl) (by kernel_rfl) (fun _ _ _ h => h) (Or.inl ⟨by rfl, fun x j => by (have c := j.c0; go_simp)⟩) J1 (fun K hK => ?_)
  go_simp
  refine hK _ _ ?_
  clear hK K
  refine held_one 2 (by kernel_rfl) (fun K hK => wpOp_in rfl rfl ?_)
  go_simp
  refine (tk _).mono ?_
  rintro e w5 ⟨rfl, rfl⟩
  refine hK _ _ J1 ?_
  clear hK K
  refine held_take 3 (.bool true) rfl (by kernel_rfl) (by kernel_rfl) (by kernel_rfl) (fun _ _ _ h => h) (Or.inl ⟨by rfl, fun x j => by go_simp⟩) J1 (fun K hK => ?_)
  go_simp
  refine hK _ _ ?_
  clear hK K
  refine held_take 4 (.pointer (some ⟨B, 1, none⟩)) rfl (by kernel_rfl) (by kernel_rfl) (by kernel_rfl) (fun _ _ _ h => h) (Or.inl ⟨by rfl, fun x j => by go_simp⟩) J1 (fun K hK => ?_)
  go_simp
  refine hK _ _ ?_
  clear hK K
  refine held_take 5 (.string f.v) rfl (by kernel_rfl) (by kernel_rfl) (by kernel_rfl) (fun _ _ _ h => h) (Or.inl ⟨by rfl, fun x j => by (have c := j.c1; go_simp)⟩) J1 (fun K hK => ?_)
  go_simp
  refine hK _ _ ?_
  clear hK K
  refine held_one 6 (by kernel_rfl) (fun K hK => wpOp_in rfl rfl ?_)
  go_simp
  refine (tt _).mono ?_
  rintro e w5 ⟨rfl, rfl⟩
  refine hK _ _ J1 ?_
  clear hK K
  refine held_take 7 (.bool false) rfl (by kernel_rfl) (by kernel_rfl) (by kernel_rfl) (fun _ _ _ h => h) (Or.inl ⟨by rfl, fun x j => by go_simp⟩) J1 (fun K hK => ?_)
  go_simp
  refine hK _ _ ?_
  clear hK K
  refine held_take 8 (.bool false) rfl (by kernel_rfl) (by kernel_rfl) (by kernel_rfl) (fun _ _ _ h => h) (Or.inl ⟨by rfl, fun x j => by go_simp⟩) J1 (fun K hK => ?_)
  go_simp
  refine hK _ _ ?_
  clear hK K
  refine held_take 9 (undef) rfl (by kernel_rfl) (by kernel_rfl) (by kernel_rfl) (fun _ _ _ h => h) (Or.inr ⟨by rfl, rfl⟩) J1 (fun K hK => ?_)
  go_simp
  refine hK _ _ ?_
  clear hK K
  refine held_take 10 (undef) rfl (by kernel_rfl) (by kernel_rfl) (by kernel_rfl) (fun _ _ _ h => h) (Or.inr ⟨by rfl, rfl⟩) J1 (fun K hK => ?_)
  go_simp
  refine hK _ _ ?_
  clear hK K
  refine held_take 11 (undef) rfl (by kernel_rfl) (by kernel_rfl) (by kernel_rfl) (fun _ _ _ h => h) (Or.inr ⟨by rfl, rfl⟩) J1 (fun K hK => ?_)
  go_simp
  refine hK _ _ ?_
  clear hK K
  refine held_take 12 (undef) rfl (by kernel_rfl) (by kernel_rfl) (by kernel_rfl) (fun _ _ _ h => h) (Or.inr ⟨by rfl, rfl⟩) J1 (fun K hK => ?_)
  go_simp
  refine hK _ _ ?_
  clear hK K
  refine held_take 13 (undef) rfl (by kernel_rfl) (by kernel_rfl) (by kernel_rfl) (fun _ _ _ h => h) (Or.inr ⟨by rfl, rfl⟩) J1 (fun K hK => ?_)
  go_simp
  refine hK _ _ ?_
  clear hK K
  refine held_take 14 (undef) rfl (by kernel_rfl) (by kernel_rfl) (by kernel_rfl) (fun _ _ _ h => h) (Or.inr ⟨by rfl, rfl⟩) J1 (fun K hK => ?_)
  go_simp
  refine hK _ _ ?_
  clear hK K
  refine held_take 15 (.bool false) rfl (by kernel_rfl) (by kernel_rfl) (by kernel_rfl) (fun _ _ _ h => h) (Or.inl ⟨by rfl, fun x j => by go_simp⟩) J1 (fun K hK => ?_)
  go_simp
  refine hK _ _ ?_
  clear hK K
  refine held_take 16 (.bool false) rfl (by kernel_rfl) (by kernel_rfl) (by kernel_rfl) (fun _ _ _ h => h) (Or.inl ⟨by rfl, fun x j => by go_simp⟩) J1 (fun K hK => ?_)
  go_simp
  refine hK _ _ ?_
  clear hK K
  refine wpAnyH_done (by kernel_rfl) ?_ _
  go_wp2
  go_ret
  exact ⟨rfl, J1.bel⟩
set_option maxHeartbeats 1000000 in
theorem good_c (f : Fd) (w : World) (hn : f.n.size ≤ 140737488355328) (hv : f.v.size ≤ 140737488355328) (h : isTok (ls f.n) = true) (h2 : isTxt (ls f.v) = true) (v : Bool) (h3 : (f.v.toList == (tx (trimT (ls f.v))).toList) = v) :
    Calls Tryd.prog 46 #[.agg (fdV f)] w fun e w' => e = .returned (.bool v) ∧ Below w.heap.size w w' := by
  have J := One.new w f
  have tk := fun w => isToken_any f.n w (by omega)
  have tt := fun w => texts_any f.v w (by omega)
  have tr := fun w => trim_any f.v w (by omega)
  rw [h] at tk
  rw [h2] at tt
  generalize tx (trimT (ls f.v)) = T at tr h3
  clear h h2
  go_enter Tryd.func46, Tryd.ntmps46
  go_upto_region 1 with (fail)
  generalize w.alloc (.cells (fdV f) 26) = X at J ⊢
  generalize w.heap.size = B at J ⊢
  refine wp_region_held (S := fun x => One w x B f) (by kernel_rfl) ?_
  change wpAnyH _ _ _ _ _ _ _ _ X.drew
  have J1 := J.drew
  clear J
  generalize X.drew = w4 at J1 ⊢
  refine held_take 0 (.pointer (some ⟨B, 0, none⟩)) rfl (by kernel_rfl) (by kernel_rfl) (by kernel_rfl) (fun _ _ _ h => h) (Or.inl ⟨by rfl, fun x j => by go_simp⟩) J1 (fun K hK => ?_)
  go_simp
  refine hK _ _ ?_
  clear hK K
  refine held_take 1 (.string f.n) rfl (by kernel_rfl) (by kernel_rfl) (by kernel_rfl) (fun _ _ _ h => h) (Or.inl ⟨by rfl, fun x j => by (have c := j.c0; go_simp)⟩) J1 (fun K hK => ?_)
  go_simp
  refine hK _ _ ?_
  clear hK K
  refine held_one 2 (by kernel_rfl) (fun K hK => wpOp_in rfl rfl ?_)
  go_simp
  refine (tk _).mono ?_
  rintro e w5 ⟨rfl, rfl⟩
  refine hK _ _ J1 ?_
  clear hK K
  refine held_take 3 (.bool true) rfl (by kernel_rfl) (by kernel_rfl) (by kernel_rfl) (fun _ _ _ h => h) (Or.inl ⟨by rfl, fun x j => by go_simp⟩) J1 (fun K hK => ?_)
  go_simp
  refine hK _ _ ?_
  clear hK K
  refine held_take 4 (.pointer (some ⟨B, 1, none⟩)) rfl (by kernel_rfl) (by kernel_rfl) (by kernel_rfl) (fun _ _ _ h => h) (Or.inl ⟨by rfl, fun x j => by go_simp⟩) J1 (fun K hK => ?_)
  go_simp
  refine hK _ _ ?_
  clear hK K
  refine held_take 5 (.string f.v) rfl (by kernel_rfl) (by kernel_rfl) (by kernel_rfl) (fun _ _ _ h => h) (Or.inl ⟨by rfl, fun x j => by (have c := j.c1; go_simp)⟩) J1 (fun K hK => ?_)
  go_simp
  refine hK _ _ ?_
  clear hK K
  refine held_one 6 (by kernel_rfl) (fun K hK => wpOp_in rfl rfl ?_)
  go_simp
  refine (tt _).mono ?_
  rintro e w5 ⟨rfl, rfl⟩
  refine hK _ _ J1 ?_
  clear hK K
  refine held_take 7 (.bool true) rfl (by kernel_rfl) (by kernel_rfl) (by kernel_rfl) (fun _ _ _ h => h) (Or.inl ⟨by rfl, fun x j => by go_simp⟩) J1 (fun K hK => ?_)
  go_simp
  refine hK _ _ ?_
  clear hK K
  refine held_take 8 (.bool true) rfl (by kernel_rfl) (by kernel_rfl) (by kernel_rfl) (fun _ _ _ h => h) (Or.inl ⟨by rfl, fun x j => by go_simp⟩) J1 (fun K hK => ?_)
  go_simp
  refine hK _ _ ?_
  clear hK K
  refine held_take 9 (.pointer (some ⟨B, 1, none⟩)) rfl (by kernel_rfl) (by kernel_rfl) (by kernel_rfl) (fun _ _ _ h => h) (Or.inl ⟨by rfl, fun x j => by go_simp⟩) J1 (fun K hK => ?_)
  go_simp
  refine hK _ _ ?_
  clear hK K
  refine held_take 10 (.string f.v) rfl (by kernel_rfl) (by kernel_rfl) (by kernel_rfl) (fun _ _ _ h => h) (Or.inl ⟨by rfl, fun x j => by (have c := j.c1; go_simp)⟩) J1 (fun K hK => ?_)
  go_simp
  refine hK _ _ ?_
  clear hK K
  refine held_take 11 (.pointer (some ⟨B, 1, none⟩)) rfl (by kernel_rfl) (by kernel_rfl) (by kernel_rfl) (fun _ _ _ h => h) (Or.inl ⟨by rfl, fun x j => by go_simp⟩) J1 (fun K hK => ?_)
  go_simp
  refine hK _ _ ?_
  clear hK K
  refine held_take 12 (.string f.v) rfl (by kernel_rfl) (by kernel_rfl) (by kernel_rfl) (fun _ _ _ h => h) (Or.inl ⟨by rfl, fun x j => by (have c := j.c1; go_simp)⟩) J1 (fun K hK => ?_)
  go_simp
  refine hK _ _ ?_
  clear hK K
  refine held_one 13 (by kernel_rfl) (fun K hK => wpOp_in rfl rfl ?_)
  go_simp
  refine (tr _).mono ?_
  rintro e w6 ⟨rfl, hb⟩
  have J1b := J1.below hb
  refine hK _ _ J1b ?_
  clear J1 hb
  clear hK K
  refine held_take 14 (.bool v) rfl (by kernel_rfl) (by kernel_rfl) (by kernel_rfl) (fun _ _ _ h => h) (Or.inl ⟨by rfl, fun x j => by go_simp⟩) J1b (fun K hK => ?_)
  go_simp
  refine hK _ _ ?_
  clear hK K
  refine held_take 15 (.bool v) rfl (by kernel_rfl) (by kernel_rfl) (by kernel_rfl) (fun _ _ _ h => h) (Or.inl ⟨by rfl, fun x j => by go_simp⟩) J1b (fun K hK => ?_)
  go_simp
  refine hK _ _ ?_
  clear hK K
  refine held_take 16 (.bool v) rfl (by kernel_rfl) (by kernel_rfl) (by kernel_rfl) (fun _ _ _ h => h) (Or.inl ⟨by rfl, fun x j => by go_simp⟩) J1b (fun K hK => ?_)
  go_simp
  refine hK _ _ ?_
  clear hK K
  refine wpAnyH_done (by kernel_rfl) ?_ _
  go_wp2
  go_ret
  exact ⟨rfl, J1b.bel⟩
theorem good_any (f : Fd) (w : World) (hn : f.n.size ≤ 140737488355328) (hv : f.v.size ≤ 140737488355328) :
    Calls Tryd.prog 46 #[.agg (fdV f)] w fun e w' => e = .returned (.bool (goodF f)) ∧ Below w.heap.size w w' := by
  rw [good_bool]
  by_cases h : isTok (ls f.n) = true
  · rw [if_pos h]
    by_cases h2 : isTxt (ls f.v) = true
    · rw [if_pos h2]; exact good_c f w hn hv h h2 _ rfl
    · rw [if_neg h2]; exact good_b f w hn hv h (by simpa using h2)
  · rw [if_neg h]; exact good_a f w hn hv (by simpa using h)
end Go.Proofs.YtdldoklkenhopaaDoor.Fi
