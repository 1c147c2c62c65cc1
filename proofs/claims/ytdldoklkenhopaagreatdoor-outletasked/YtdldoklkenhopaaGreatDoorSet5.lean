/-
  Contracts of Good and Print of package field.
  The library's builder of texts that stands alone: what its methods do. No conditions but that it holds at most 2^40 bytes.
  Contracts of canBeWritten, sizeOf and headOf of package outlet. Conditions: at most 60 fields, whose texts are within the form's reach.
  Contract of headOf of package outlet. Conditions: at most 60 fields, whose texts are within the form's reach; a start of at most 2^20 bytes.
  Contracts of Reason, of the program's and the document's, and of Bodyless.
  Contract of Split of package field: the head that a text begins with, or why there is none.
  Contracts of the library's HasPrefix and CutPrefix (both texts of at most 2^40 bytes): what stands behind a beginning.
-/
import Derived.Test.YtdldoklkenhopaaGreatDoorSet2
import Derived.Test.YtdldoklkenhopaaGreatDoorSet4
import Derived.Lib.FrozenHead2
import Derived.Lib.OthersKept
import Derived.Laws.Externs
import Derived.Test.YtdldoklkenhopaaGreatDoorSet1
import Derived.Test.YtdldoklkenhopaaGreatDoorSet3
import Derived.Deep.DeepCutAuto
section
namespace Go.Proofs.YtdldoklkenhopaaGreatDoor.Fi
open Go.RowKit Go.PlainAid
open Hx
set_option linter.unusedVariables false
set_option maxRecDepth 20000
set_option linter.unusedSimpArgs false

/-- one field of the call's own -/
structure One (w x : World) (B : Nat) (f : Fd) : Prop where
  a : At x B 26 (fdV f)
  bel : Below w.heap.size w x
theorem One.below {w x y : World} {B : Nat} {f : Fd} (i : One w x B f) (hb : Below x.heap.size x y) : One w y B f := ⟨i.a.old hb, i.bel.trans (hb.mono i.bel.size)⟩
theorem One.drew {w x : World} {B : Nat} {f : Fd} (i : One w x B f) : One w x.drew B f := i.below ((Below.refl _ _).drew)
theorem One.new (w : World) (f : Fd) : One w (w.alloc (.cells (fdV f) 26)) w.heap.size f := ⟨At.new w _ _, (Below.refl _ _).alloc (Nat.le_refl _) _⟩
theorem One.c0 {w x : World} {B : Nat} {f : Fd} (i : One w x B f) : x.cell? ⟨B, 0, none⟩ = some (.string f.n) := i.a.cell 0
theorem One.c1 {w x : World} {B : Nat} {f : Fd} (i : One w x B f) : x.cell? ⟨B, 1, none⟩ = some (.string f.v) := i.a.cell 1
theorem print_any (f : Fd) (w : World) (hn : f.n.size ≤ 140737488355328) (hv : f.v.size ≤ 140737488355328) :
    Calls Tryz.prog 32 #[.agg (fdV f)] w fun e w' => e = .returned (.string (tx (printF f))) ∧ Below w.heap.size w w' := by
  have J := One.new w f
  have hp : f.n ++ (⟨#[58, 32]⟩ : ByteArray) ++ f.v = tx (printF f) := ls_inj (by rw [ls_append, ls_append, ls_tx]; rfl)
  have HP := Lib.hid hp
  clear hp
  have z1 : (⟨#[58, 32]⟩ : ByteArray).size = 2 := rfl
  go_enter Tryz.func32, Tryz.ntmps32
  go_upto_region 1 with (fail)
  generalize w.alloc (.cells (fdV f) 26) = X at J ⊢
  have c0 := J.c0
  have c1 := J.c1
  go_wp2
  go_ret
  exact ⟨by rw [← HP.out]; rfl, J.bel⟩
open Classical in
theorem good_bool (f : Fd) : goodF f = (if isTok (ls f.n) = true then (if isTxt (ls f.v) = true then (f.v.toList == (tx (trimT (ls f.v))).toList) else false) else false) := by
  unfold goodF
  have e : (trimT (ls f.v) == ls f.v) = (f.v.toList == (tx (trimT (ls f.v))).toList) := by
    rw [ls_toList, ls_toList, ls_tx, Bool.eq_iff_iff, beq_iff_eq, beq_iff_eq]
    exact eq_comm
  rw [e]
  cases isTok (ls f.n) <;> cases isTxt (ls f.v) <;> simp
set_option maxHeartbeats 1000000 in
theorem good_a (f : Fd) (w : World) (hn : f.n.size ≤ 140737488355328) (hv : f.v.size ≤ 140737488355328) (h : isTok (ls f.n) = false) :
    Calls Tryz.prog 51 #[.agg (fdV f)] w fun e w' => e = .returned (.bool false) ∧ Below w.heap.size w w' := by
  have J := One.new w f
  have tk := fun w => isToken_any f.n w (by omega)
  have tt := fun w => texts_any f.v w (by omega)
  have tr := fun w => trim_any f.v w (by omega)
  rw [h] at tk
  clear h
  go_enter Tryz.func51, Tryz.ntmps51
  go_upto_region 1 with (fail)
  generalize w.alloc (.cells (fdV f) 26) = X at J ⊢
  generalize w.heap.size = B at J ⊢
  refine wp_region_held (S := fun x => One w x B f) (by kernel_rfl) ?_
  change wpAnyH _ _ _ _ _ _ _ _ X.drew
  have J1 := J.drew
  clear J
  generalize X.drew = w4 at J1 ⊢
  refine held_take 0 (.pointer (some ⟨B, 0, none⟩)) rfl (by kernel_rfl) (by kernel_rfl) (by kernel_rfl) (fun _ _ _ h => h) (Or.inl ⟨by rfl, fun x j => by go_simp⟩) J1 (fun K hK => ?_)
  go_simp
  refine hK _ _ ?_
  clear hK K
  refine held_take 1 (.string f.n) rfl (by kernel_rfl) (by kernel_rfl) (by kernel_rfl) (fun _ _ _ h => h) (Or.inl ⟨by rfl, fun x j => by (have c := j.c0; go_simp)⟩) J1 (fun K hK => ?_)
  go_simp
  refine hK _ _ ?_
  clear hK K
  refine held_one 2 (by kernel_rfl) (fun K hK => wpOp_in rfl rfl ?_)
  go_simp
  refine (tk _).mono ?_
  rintro e w5 ⟨rfl, rfl⟩
  refine hK _ _ J1 ?_
  clear hK K
  refine held_take 3 (.bool false) rfl (by kernel_rfl) (by kernel_rfl) (by kernel_rfl) (fun _ _ _ h => h) (Or.inl ⟨by rfl, fun x j => by go_simp⟩) J1 (fun K hK => ?_)
  go_simp
  refine hK _ _ ?_
  clear hK K
  refine held_take 4 (undef) rfl (by kernel_rfl) (by kernel_rfl) (by kernel_rfl) (fun _ _ _ h => h) (Or.inr ⟨by rfl, rfl⟩) J1 (fun K hK => ?_)
  go_simp
  refine hK _ _ ?_
  clear hK K
  refine held_take 5 (undef) rfl (by kernel_rfl) (by kernel_rfl) (by kernel_rfl) (fun _ _ _ h => h) (Or.inr ⟨by rfl, rfl⟩) J1 (fun K hK => ?_)
  go_simp
  refine hK _ _ ?_
  clear hK K
  refine held_take 6 (undef) rfl (by kernel_rfl) (by kernel_rfl) (by kernel_rfl) (fun _ _ _ h => h) (Or.inr ⟨by rfl, rfl⟩) J1 (fun K hK => ?_)
  go_simp
  refine hK _ _ ?_
  clear hK K
  refine held_take 7 (.bool false) rfl (by kernel_rfl) (by kernel_rfl) (by kernel_rfl) (fun _ _ _ h => h) (Or.inl ⟨by rfl, fun x j => by go_simp⟩) J1 (fun K hK => ?_)
  go_simp
  refine hK _ _ ?_
  clear hK K
  refine held_take 8 (.bool false) rfl (by kernel_rfl) (by kernel_rfl) (by kernel_rfl) (fun _ _ _ h => h) (Or.inl ⟨by rfl, fun x j => by go_simp⟩) J1 (fun K hK => ?_)
  go_simp
  refine hK _ _ ?_
  clear hK K
  refine held_take 9 (undef) rfl (by kernel_rfl) (by kernel_rfl) (by kernel_rfl) (fun _ _ _ h => h) (Or.inr ⟨by rfl, rfl⟩) J1 (fun K hK => ?_)
  go_simp
  refine hK _ _ ?_
  clear hK K
  refine held_take 10 (undef) rfl (by kernel_rfl) (by kernel_rfl) (by kernel_rfl) (fun _ _ _ h => h) (Or.inr ⟨by rfl, rfl⟩) J1 (fun K hK => ?_)
  go_simp
  refine hK _ _ ?_
  clear hK K
  refine held_take 11 (undef) rfl (by kernel_rfl) (by kernel_rfl) (by kernel_rfl) (fun _ _ _ h => h) (Or.inr ⟨by rfl, rfl⟩) J1 (fun K hK => ?_)
  go_simp
  refine hK _ _ ?_
  clear hK K
  refine held_take 12 (undef) rfl (by kernel_rfl) (by kernel_rfl) (by kernel_rfl) (fun _ _ _ h => h) (Or.inr ⟨by rfl, rfl⟩) J1 (fun K hK => ?_)
  go_simp
  refine hK _ _ ?_
  clear hK K
  refine held_take 13 (undef) rfl (by kernel_rfl) (by kernel_rfl) (by kernel_rfl) (fun _ _ _ h => h) (Or.inr ⟨by rfl, rfl⟩) J1 (fun K hK => ?_)
  go_simp
  refine hK _ _ ?_
  clear hK K
  refine held_take 14 (undef) rfl (by kernel_rfl) (by kernel_rfl) (by kernel_rfl) (fun _ _ _ h => h) (Or.inr ⟨by rfl, rfl⟩) J1 (fun K hK => ?_)
  go_simp
  refine hK _ _ ?_
  clear hK K
  refine held_take 15 (.bool false) rfl (by kernel_rfl) (by kernel_rfl) (by kernel_rfl) (fun _ _ _ h => h) (Or.inl ⟨by rfl, fun x j => by go_simp⟩) J1 (fun K hK => ?_)
  go_simp
  refine hK _ _ ?_
  clear hK K
  refine held_take 16 (.bool false) rfl (by kernel_rfl) (by kernel_rfl) (by kernel_rfl) (fun _ _ _ h => h) (Or.inl ⟨by rfl, fun x j => by go_simp⟩) J1 (fun K hK => ?_)
  go_simp
  refine hK _ _ ?_
  clear hK K
  refine wpAnyH_done (by kernel_rfl) ?_ _
  go_wp2
  go_ret
  exact ⟨rfl, J1.bel⟩
set_option maxHeartbeats 1000000 in
theorem good_b (f : Fd) (w : World) (hn : f.n.size ≤ 140737488355328) (hv : f.v.size ≤ 140737488355328) (h : isTok (ls f.n) = true) (h2 : isTxt (ls f.v) = false) :
    Calls Tryz.prog 51 #[.agg (fdV f)] w fun e w' => e = .returned (.bool false) ∧ Below w.heap.size w w' := by
  have J := One.new w f
  have tk := fun w => isToken_any f.n w (by omega)
  have tt := fun w => texts_any f.v w (by omega)
  have tr := fun w => trim_any f.v w (by omega)
  rw [h] at tk
  rw [h2] at tt
  clear h h2
  go_enter Tryz.func51, Tryz.ntmps51
  go_upto_region 1 with (fail)
  generalize w.alloc (.cells (fdV f) 26) = X at J ⊢
  generalize w.heap.size = B at J ⊢
  refine wp_region_held (S := fun x => One w x B f) (by kernel_rfl) ?_
  change wpAnyH _ _ _ _ _ _ _ _ X.drew
  have J1 := J.drew
  clear J
  generalize X.drew = w4 at J1 ⊢
  refine held_take 0 (.pointer (some ⟨B, 0, none⟩)) rfl (by kernel_rfl) (by kernel_rfl) (by kernel_rfl) (fun _ _ _ h => h) (Or.inl ⟨by rfl, fun x j => by go_simp⟩) J1 (fun K hK => ?_)
  go_simp
  refine hK _ _ ?_
  clear hK K
  refine held_take 1 (.string f.n) rfl (by kernel_rfl) (by kernel_rfl) (by kernel_rfl) (fun _ _ _ h => h) (Or.inl ⟨by rfl, fun x j => by (have c := j.c0; go_simp)⟩) J1 (fun K hK => ?_)
  go_simp
  refine hK _ _ ?_
  clear hK K
  refine held_one 2 (by kernel_rfl) (fun K hK => wpOp_in rfl rfl ?_)
  go_simp
  refine (tk _).mono ?_
  rintro e w5 ⟨rfl, rfl⟩
  refine hK _ _ J1 ?_
  clear hK K
  refine held_take 3 (.bool true) rfl (by kernel_rfl) (by kernel_rfl) (by kernel_rfl) (fun _ _ _ h => h) (Or.inl ⟨by rfl, fun x j => by go_simp⟩) J1 (fun K hK => ?_)
  go_simp
  refine hK _ _ ?_
  clear hK K
  refine held_take 4 (.pointer (some ⟨B, 1, none⟩)) rfl (by kernel_rfl) (by kernel_rfl) (by kernel_rfl) (fun _ _ _ h => h) (Or.inl ⟨by rfl, fun x j => by go_simp⟩) J1 (fun K hK => ?_)
  go_simp
  refine hK _ _ ?_
  clear hK K
  refine held_take 5 (.string f.v) rfl (by kernel_rfl) (by kernel_rfl) (by kernel_rfl) (fun _ _ _ h => h) (Or.inl ⟨by rfl, fun x j => by (have c := j.c1; go_simp)⟩) J1 (fun K hK => ?_)
  go_simp
  refine hK _ _ ?_
  clear hK K
  refine held_one 6 (by kernel_rfl) (fun K hK => wpOp_in rfl rfl ?_)
  go_simp
  refine (tt _).mono ?_
  rintro e w5 ⟨rfl, rfl⟩
  refine hK _ _ J1 ?_
  clear hK K
  refine held_take 7 (.bool false) rfl (by kernel_rfl) (by kernel_rfl) (by kernel_rfl) (fun _ _ _ h => h) (Or.inl ⟨by rfl, fun x j => by go_simp⟩) J1 (fun K hK => ?_)
  go_simp
  refine hK _ _ ?_
  clear hK K
  refine held_take 8 (.bool false) rfl (by kernel_rfl) (by kernel_rfl) (by kernel_rfl) (fun _ _ _ h => h) (Or.inl ⟨by rfl, fun x j => by go_simp⟩) J1 (fun K hK => ?_)
  go_simp
  refine hK _ _ ?_
  clear hK K
  refine held_take 9 (undef) rfl (by kernel_rfl) (by kernel_rfl) (by kernel_rfl) (fun _ _ _ h => h) (Or.inr ⟨by rfl, rfl⟩) J1 (fun K hK => ?_)
  go_simp
  refine hK _ _ ?_
  clear hK K
  refine held_take 10 (undef) rfl (by kernel_rfl) (by kernel_rfl) (by kernel_rfl) (fun _ _ _ h => h) (Or.inr ⟨by rfl, rfl⟩) J1 (fun K hK => ?_)
  go_simp
  refine hK _ _ ?_
  clear hK K
  refine held_take 11 (undef) rfl (by kernel_rfl) (by kernel_rfl) (by kernel_rfl) (fun _ _ _ h => h) (Or.inr ⟨by rfl, rfl⟩) J1 (fun K hK => ?_)
  go_simp
  refine hK _ _ ?_
  clear hK K
  refine held_take 12 (undef) rfl (by kernel_rfl) (by kernel_rfl) (by kernel_rfl) (fun _ _ _ h => h) (Or.inr ⟨by rfl, rfl⟩) J1 (fun K hK => ?_)
  go_simp
  refine hK _ _ ?_
  clear hK K
  refine held_take 13 (undef) rfl (by kernel_rfl) (by kernel_rfl) (by kernel_rfl) (fun _ _ _ h => h) (Or.inr ⟨by rfl, rfl⟩) J1 (fun K hK => ?_)
  go_simp
  refine hK _ _ ?_
  clear hK K
  refine held_take 14 (undef) rfl (by kernel_rfl) (by kernel_rfl) (by kernel_rfl) (fun _ _ _ h => h) (Or.inr ⟨by rfl, rfl⟩) J1 (fun K hK => ?_)
  go_simp
  refine hK _ _ ?_
  clear hK K
  refine held_take 15 (.bool false) rfl (by kernel_rfl) (by kernel_rfl) (by kernel_rfl) (fun _ _ _ h => h) (Or.inl ⟨by rfl, fun x j => by go_simp⟩) J1 (fun K hK => ?_)
  go_simp
  refine hK _ _ ?_
  clear hK K
  refine held_take 16 (.bool false) rfl (by kernel_rfl) (by kernel_rfl) (by kernel_rfl) (fun _ _ _ h => h) (Or.inl ⟨by rfl, fun x j => by go_simp⟩) J1 (fun K hK => ?_)
  go_simp
  refine hK _ _ ?_
  clear hK K
  refine wpAnyH_done (by kernel_rfl) ?_ _
  go_wp2
  go_ret
  exact ⟨rfl, J1.bel⟩
set_option maxHeartbeats 1000000 in
theorem good_c (f : Fd) (w : World) (hn : f.n.size ≤ 140737488355328) (hv : f.v.size ≤ 140737488355328) (h : isTok (ls f.n) = true) (h2 : isTxt (ls f.v) = true) (v : Bool) (h3 : (f.v.toList == (tx (trimT (ls f.v))).toList) = v) :
    Calls Tryz.prog 51 #[.agg (fdV f)] w fun e w' => e = .returned (.bool v) ∧ Below w.heap.size w w' := by
  have J := One.new w f
  have tk := fun w => isToken_any f.n w (by omega)
  have tt := fun w => texts_any f.v w (by omega)
  have tr := fun w => trim_any f.v w (by omega)
  rw [h] at tk
  rw [h2] at tt
  generalize tx (trimT (ls f.v)) = T at tr h3
  clear h h2
  go_enter Tryz.func51, Tryz.ntmps51
  go_upto_region 1 with (fail)
  generalize w.alloc (.cells (fdV f) 26) = X at J ⊢
  generalize w.heap.size = B at J ⊢
  refine wp_region_held (S := fun x => One w x B f) (by kernel_rfl) ?_
  change wpAnyH _ _ _ _ _ _ _ _ X.drew
  have J1 := J.drew
  clear J
  generalize X.drew = w4 at J1 ⊢
  refine held_take 0 (.pointer (some ⟨B, 0, none⟩)) rfl (by kernel_rfl) (by kernel_rfl) (by kernel_rfl) (fun _ _ _ h => h) (Or.inl ⟨by rfl, fun x j => by go_simp⟩) J1 (fun K hK => ?_)
  go_simp
  refine hK _ _ ?_
  clear hK K
  refine held_take 1 (.string f.n) rfl (by kernel_rfl) (by kernel_rfl) (by kernel_rfl) (fun _ _ _ h => h) (Or.inl ⟨by rfl, fun x j => by (have c := j.c0; go_simp)⟩) J1 (fun K hK => ?_)
  go_simp
  refine hK _ _ ?_
  clear hK K
  refine held_one 2 (by kernel_rfl) (fun K hK => wpOp_in rfl rfl ?_)
  go_simp
  refine (tk _).mono ?_
  rintro e w5 ⟨rfl, rfl⟩
  refine hK _ _ J1 ?_
  clear hK K
  refine held_take 3 (.bool true) rfl (by kernel_rfl) (by kernel_rfl) (by kernel_rfl) (fun _ _ _ h => h) (Or.inl ⟨by rfl, fun x j => by go_simp⟩) J1 (fun K hK => ?_)
  go_simp
  refine hK _ _ ?_
  clear hK K
  refine held_take 4 (.pointer (some ⟨B, 1, none⟩)) rfl (by kernel_rfl) (by kernel_rfl) (by kernel_rfl) (fun _ _ _ h => h) (Or.inl ⟨by rfl, fun x j => by go_simp⟩) J1 (fun K hK => ?_)
  go_simp
  refine hK _ _ ?_
  clear hK K
  refine held_take 5 (.string f.v) rfl (by kernel_rfl) (by kernel_rfl) (by kernel_rfl) (fun _ _ _ h => h) (Or.inl ⟨by rfl, fun x j => by (have c := j.c1; go_simp)⟩) J1 (fun K hK => ?_)
  go_simp
  refine hK _ _ ?_
  clear hK K
  refine held_one 6 (by kernel_rfl) (fun K hK => wpOp_in rfl rfl ?_)
  go_simp
  refine (tt _).mono ?_
  rintro e w5 ⟨rfl, rfl⟩
  refine hK _ _ J1 ?_
  clear hK K
  refine held_take 7 (.bool true) rfl (by kernel_rfl) (by kernel_rfl) (by kernel_rfl) (fun _ _ _ h => h) (Or.inl ⟨by rfl, fun x j => by go_simp⟩) J1 (fun K hK => ?_)
  go_simp
  refine hK _ _ ?_
  clear hK K
  refine held_take 8 (.bool true) rfl (by kernel_rfl) (by kernel_rfl) (by kernel_rfl) (fun _ _ _ h => h) (Or.inl ⟨by rfl, fun x j => by go_simp⟩) J1 (fun K hK => ?_)
  go_simp
  refine hK _ _ ?_
  clear hK K
  refine held_take 9 (.pointer (some ⟨B, 1, none⟩)) rfl (by kernel_rfl) (by kernel_rfl) (by kernel_rfl) (fun _ _ _ h => h) (Or.inl ⟨by rfl, fun x j => by go_simp⟩) J1 (fun K hK => ?_)
  go_simp
  refine hK _ _ ?_
  clear hK K
  refine held_take 10 (.string f.v) rfl (by kernel_rfl) (by kernel_rfl) (by kernel_rfl) (fun _ _ _ h => h) (Or.inl ⟨by rfl, fun x j => by (have c := j.c1; go_simp)⟩) J1 (fun K hK => ?_)
  go_simp
  refine hK _ _ ?_
  clear hK K
  refine held_take 11 (.pointer (some ⟨B, 1, none⟩)) rfl (by kernel_rfl) (by kernel_rfl) (by kernel_rfl) (fun _ _ _ h => h) (Or.inl ⟨by rfl, fun x j => by go_simp⟩) J1 (fun K hK => ?_)
  go_simp
  refine hK _ _ ?_
  clear hK K
  refine held_take 12 (.string f.v) rfl (by kernel_rfl) (by kernel_rfl) (by kernel_rfl) (fun _ _ _ h => h) (Or.inl ⟨by rfl, fun x j => by (have c := j.c1; go_simp)⟩) J1 (fun K hK => ?_)
  go_simp
  refine hK _ _ ?_
  clear hK K
  refine held_one 13 (by kernel_rfl) (fun K hK => wpOp_in rfl rfl ?_)
  go_simp
  refine (tr _).mono ?_
  rintro e w6 ⟨rfl, hb⟩
  have J1b := J1.below hb
  refine hK _ _ J1b ?_
  clear J1 hb
  clear hK K
  refine held_take 14 (.bool v) rfl (by kernel_rfl) (by kernel_rfl) (by kernel_rfl) (fun _ _ _ h => h) (Or.inl ⟨by rfl, fun x j => by go_simp⟩) J1b (fun K hK => ?_)
  go_simp
  refine hK _ _ ?_
  clear hK K
  refine held_take 15 (.bool v) rfl (by kernel_rfl) (by kernel_rfl) (by kernel_rfl) (fun _ _ _ h => h) (Or.inl ⟨by rfl, fun x j => by go_simp⟩) J1b (fun K hK => ?_)
  go_simp
  refine hK _ _ ?_
  clear hK K
  refine held_take 16 (.bool v) rfl (by kernel_rfl) (by kernel_rfl) (by kernel_rfl) (fun _ _ _ h => h) (Or.inl ⟨by rfl, fun x j => by go_simp⟩) J1b (fun K hK => ?_)
  go_simp
  refine hK _ _ ?_
  clear hK K
  refine wpAnyH_done (by kernel_rfl) ?_ _
  go_wp2
  go_ret
  exact ⟨rfl, J1b.bel⟩
theorem good_any (f : Fd) (w : World) (hn : f.n.size ≤ 140737488355328) (hv : f.v.size ≤ 140737488355328) :
    Calls Tryz.prog 51 #[.agg (fdV f)] w fun e w' => e = .returned (.bool (goodF f)) ∧ Below w.heap.size w w' := by
  rw [good_bool]
  by_cases h : isTok (ls f.n) = true
  · rw [if_pos h]
    by_cases h2 : isTxt (ls f.v) = true
    · rw [if_pos h2]; exact good_c f w hn hv h h2 _ rfl
    · rw [if_neg h2]; exact good_b f w hn hv h (by simpa using h2)
  · rw [if_neg h]; exact good_a f w hn hv (by simpa using h)
end Go.Proofs.YtdldoklkenhopaaGreatDoor.Fi
end

section
namespace Go.Proofs.YtdldoklkenhopaaGreatDoor.Ch
open Go.RowKit Go.PlainAid
open Hx Fi
set_option linter.unusedVariables false
set_option maxRecDepth 20000
set_option linter.unusedSimpArgs false

/-- below block N nothing but block b has turned -/
structure Keeps (b N : Nat) (w w' : World) : Prop where
  os : w'.os = w.os
  tape : w'.tape = w.tape
  output : w'.output = w.output
  size : w.heap.size ≤ w'.heap.size
  block : ∀ k, k < N → k ≠ b → w'.heap[k]? = w.heap[k]?
theorem Keeps.refl (b N : Nat) (w : World) : Keeps b N w w := ⟨rfl, rfl, rfl, Nat.le_refl _, fun _ _ _ => rfl⟩
theorem Keeps.trans {b N : Nat} {x y z : World} (h : Keeps b N x y) (k : Keeps b N y z) : Keeps b N x z :=
  ⟨k.os.trans h.os, k.tape.trans h.tape, k.output.trans h.output, Nat.le_trans h.size k.size, fun i hi hb => (k.block i hi hb).trans (h.block i hi hb)⟩
theorem Keeps.of_below {b N : Nat} {w w' : World} (h : Below N w w') : Keeps b N w w' := ⟨h.os, h.tape, h.output, h.size, fun k hk _ => h.block k hk⟩
theorem Keeps.set {b N : Nat} (w : World) (j : Nat) (v : Value) : Keeps b N w (w.setCell ⟨b, j, none⟩ v) := ⟨rfl, rfl, rfl, by simp [World.setCell], fun k _ hk => Below.heap_setCell _ _ _ _ hk⟩
theorem Keeps.grown {b N : Nat} {w w' : World} {row : Option Nat} (h : w.grownBy w' row) (hN : N ≤ w.heap.size) (hr : ∀ k, row = some k → N ≤ k) : Keeps b N w w' :=
  ⟨h.os, h.tape, h.output, h.size, fun k hk _ => h.block k (by omega) (fun e => by have := hr k e.symm; omega)⟩
theorem Keeps.below {b N M : Nat} {w0 w w' : World} (h : Keeps b N w w') (hb : Below M w0 w) (hM : M ≤ N) (hbm : M ≤ b) : Below M w0 w' :=
  hb.trans ⟨h.os, h.tape, h.output, h.size, fun k hk => h.block k (by omega) (by omega)⟩
theorem infoBuilder : (Tryz.prog.info? 65).map (·.size) = some 2 := by kernel_rfl
set_option maxHeartbeats 1000000 in
theorem copy_used (b : Nat) (w : World) (h0 : w.cell? ⟨b, 0, none⟩ = some (.pointer (some ⟨b, 0, none⟩))) :
    Calls Tryz.prog 52 #[.pointer (some ⟨b, 0, none⟩)] w fun e w' => e = .returned (.tuple #[]) ∧ w' = w := by
  obtain ⟨j, hj, _⟩ := Option.map_eq_some_iff.1 infoBuilder
  go_enter Tryz.func52, Tryz.ntmps52
  go_wp2
  rw [Lib.run_neq_ptr_same w _ Tryz.underlying63 hj]
  go_wp2
  go_end0
  exact ⟨rfl, rfl⟩
theorem keeps_freeze {b N g : Nat} (w : World) (n : Nat) (hg : N ≤ g) : Keeps b N w (w.freeze ⟨g, 0, none⟩ n) := Keeps.of_below (Lib.below_freeze (Below.refl N w) (p := ⟨g, 0, none⟩) hg n)
/-- the writer in block b, whose buffer lies from block N on, holds the bytes l -/
structure Wr (w : World) (b N : Nat) (l : List UInt8) : Prop where
  lo : b < N
  hi : N ≤ w.heap.size
  is : ∃ p v, (p = .pointer none ∨ p = .pointer (some ⟨b, 0, none⟩)) ∧ w.heap[b]? = some (.cells #[p, v] 65 (0, 0)) ∧ w.ownsRowF N 5 1 v l.length (bytesV l)
theorem Wr.below {w w' : World} {b N M : Nat} {l : List UInt8} (h : Wr w b N l) (hb : Below M w w') (hM : w.heap.size ≤ M) : Wr w' b N l := by
  obtain ⟨p, v, hp, hh, hv⟩ := h.is
  have hbs : b < w.heap.size := Nat.lt_of_lt_of_le h.lo h.hi
  refine ⟨h.lo, Nat.le_trans h.hi hb.size, p, v, hp, by rw [hb.block b (by omega)]; exact hh, ?_⟩
  refine hv.kept (row := none) ⟨hb.os, hb.tape, hb.output, hb.size, fun k hk _ => hb.block k (by omega)⟩ ?_
  cases v.ownBlock <;> simp
theorem Wr.drew {w : World} {b N : Nat} {l : List UInt8} (h : Wr w b N l) : Wr w.drew b N l := h.below ((Below.refl _ _).drew) (Nat.le_refl _)
/-- another writer is written: this one stays -/
theorem Wr.keeps {w w' : World} {b N c M : Nat} {l : List UInt8} (h : Wr w b N l) (k : Keeps c M w w') (hM : w.heap.size ≤ M) (hc : c < N) (hne : b ≠ c) : Wr w' b N l := by
  obtain ⟨p, v, hp, hh, hv⟩ := h.is
  have hbs : b < w.heap.size := Nat.lt_of_lt_of_le h.lo h.hi
  refine ⟨h.lo, Nat.le_trans h.hi k.size, p, v, hp, by rw [k.block b (by omega) hne]; exact hh, ?_⟩
  refine hv.kept (row := some c) ⟨k.os, k.tape, k.output, k.size, fun i hi hn => k.block i (by omega) fun e => hn (by rw [e])⟩ ?_
  refine Or.inr fun e => ?_
  have := (hv.lt c e).1
  omega
theorem liesBuilder : liesAt Tryz.prog Tryz.prog.depth 65 (2 / Tryz.prog.cellsOf 65) 0 65 1 = true := by kernel_rfl

set_option maxHeartbeats 1000000 in
theorem copy_fresh (b : Nat) (w : World) (h0 : w.cell? ⟨b, 0, none⟩ = some (.pointer none)) (hsh : w.shape? b = some (65, 2)) (hfz : w.frozen? ⟨b, 0, none⟩ = false) :
    Calls Tryz.prog 52 #[.pointer (some ⟨b, 0, none⟩)] w fun e w' => e = .returned (.tuple #[]) ∧ w' = w.setCell ⟨b, 0, none⟩ (.pointer (some ⟨b, 0, none⟩)) := by
  obtain ⟨j, hj, hjs⟩ := Option.map_eq_some_iff.1 infoBuilder
  go_enter Tryz.func52, Tryz.ntmps52
  go_wp2
  rw [Lib.run_to_unsafe w ⟨b, 0, none⟩ Tryz.underlying63 Tryz.underlying105 hj (by rw [hjs]; decide) hsh (Nat.zero_lt_succ 1)]
  simp only [Result.andThen]
  rw [Oper.upon_value]
  go_wp2
  rw [run_callFunc_extern Tryz.func71 (by kernel_rfl) (by kernel_rfl) (by kernel_rfl) (e := Extern.AbiNoEscape.same) (by kernel_rfl)]
  rw [Lib.run_noEscape]
  simp only [Result.andThen]
  rw [Oper.upon_value]
  go_wp2
  rw [Lib.run_from_unsafe w ⟨b, 0, none⟩ Tryz.underlying105 Tryz.underlying63 hj hsh liesBuilder]
  simp only [Result.andThen]
  rw [Oper.upon_value]
  go_wp2
  go_end0
  exact ⟨rfl, rfl⟩
theorem copy_any {b N : Nat} {l : List UInt8} {w : World} (h : Wr w b N l) :
    Calls Tryz.prog 52 #[.pointer (some ⟨b, 0, none⟩)] w fun e w' => e = .returned (.tuple #[]) ∧ (∃ v, w'.heap[b]? = some (.cells #[.pointer (some ⟨b, 0, none⟩), v] 65 (0, 0)) ∧ w'.ownsRowF N 5 1 v l.length (bytesV l)) ∧ Keeps b N w w' ∧ N ≤ w'.heap.size := by
  obtain ⟨p, v, hp, hh, hv⟩ := h.is
  have c0 : w.cell? ⟨b, 0, none⟩ = some p := by rw [Lib.cell_of_heap hh]; rfl
  rcases hp with rfl | rfl
  · refine (copy_fresh b w c0 (by simp [World.shape?, hh]) (Lib.frozen_of_heap hh 0)).mono ?_
    rintro e w' ⟨rfl, rfl⟩
    refine ⟨rfl, ⟨v, by simp [World.setCell, Array.getElem?_modify, hh], ?_⟩, Keeps.set w 0 _, by simpa [World.setCell] using h.hi⟩
    refine hv.kept (row := some b) ⟨rfl, rfl, rfl, by simp [World.setCell], fun k _ hk => Below.heap_setCell _ _ _ _ (fun e => hk (by simp [e]))⟩ (Or.inr fun e => ?_)
    have := (hv.lt b e).1
    have := h.lo
    omega
  · refine (copy_used b w c0).mono ?_
    rintro e w' ⟨rfl, rfl⟩
    exact ⟨rfl, ⟨v, hh, hv⟩, Keeps.refl _ _ _, h.hi⟩

/-- behind an append the new row is laid into the writer -/
theorem Wr.put {b N : Nat} {l : List UInt8} {w1 w2 : World} {v v' : Value} (hlo : b < N) (hN : N ≤ w1.heap.size) (hh : w1.heap[b]? = some (.cells #[.pointer (some ⟨b, 0, none⟩), v] 65 (0, 0)))
    (hg : w1.grownBy w2 v.ownBlock) (hv : ∀ k, v.ownBlock = some k → N ≤ k) (hown : w2.ownsRowF N 5 1 v' l.length (bytesV l)) : Wr (w2.setCell ⟨b, 1, none⟩ v') b N l ∧ Keeps b N w1 (w2.setCell ⟨b, 1, none⟩ v') := by
  have hb2 : w2.heap[b]? = some (.cells #[.pointer (some ⟨b, 0, none⟩), v] 65 (0, 0)) := by
    rw [hg.block b (by omega) (fun e => by have := hv b e.symm; omega)]
    exact hh
  refine ⟨⟨hlo, by simpa [World.setCell] using Nat.le_trans hN hg.size, _, v', Or.inr rfl, by simp [World.setCell, Array.getElem?_modify, hb2], ?_⟩, (Keeps.grown hg hN hv).trans (Keeps.set _ 1 _)⟩
  refine hown.kept (row := some b) ⟨rfl, rfl, rfl, by simp [World.setCell], fun k _ hk => Below.heap_setCell _ _ _ _ (fun e => hk (by simp [e]))⟩ (Or.inr fun e => ?_)
  have := (hown.lt b e).1
  omega
set_option maxHeartbeats 2000000 in
theorem string_any {b N : Nat} {l : List UInt8} {w : World} (h : Wr w b N l) (s : ByteArray) (hl : l.length + s.size ≤ 1099511627776) :
    Calls Tryz.prog 31 #[.pointer (some ⟨b, 0, none⟩), .string s] w fun e w' => e = .returned (.tuple #[.int .i64 s.size, .nilIface]) ∧ Wr w' b N (l ++ ls s) ∧ Keeps b N w w' := by
  obtain ⟨i0, hi, hz0, hz1, hz2⟩ := info_parts info5
  have hlo := h.lo; have hhi := h.hi
  have hss : s.size ≤ 9223372036854775807 := by omega
  go_enter Tryz.func31, Tryz.ntmps31
  go_wp2_with fail
  refine (copy_any h).mono ?_
  rintro e w1 ⟨rfl, ⟨v, hh, hown⟩, k1, s1⟩
  clear h
  have c1 : w1.cell? ⟨b, 1, none⟩ = some v := by rw [Lib.cell_of_heap hh]; rfl
  have c0 : w1.cell? ⟨b, 0, none⟩ = some (.pointer (some ⟨b, 0, none⟩)) := by rw [Lib.cell_of_heap hh]; rfl
  go_wp2_with (at_builtin; refine Lib.wpList_append_own_stringF _ rfl _ _ 49 9 rfl N 5 i0 Tryz.underlying49 Tryz.underlying9 hi hz0 hz1 hz2 _ _ _ rfl hown s rfl ?c3 ?c4 ?c5 ?_)
  case c3 => unfold maxLen; omega
  case c4 => omega
  case c5 => omega
  intro v' w2 hown' hgrow _
  have hvN : ∀ k, v.ownBlock = some k → N ≤ k := fun k hk => (hown.lt k hk).1
  have e5 : bytesV l ++ Lib.strCells s = bytesV (l ++ ls s) := by
    rw [bytesV_append]; rfl
  rw [e5] at hown'
  obtain ⟨W2, K2⟩ := Wr.put (l := l ++ ls s) hlo (by omega) hh hgrow hvN (by simpa [ls_len] using hown')
  have hb2 : w2.heap[b]? = some (.cells #[.pointer (some ⟨b, 0, none⟩), v] 65 (0, 0)) := by
    rw [hgrow.block b (by omega) (fun e => by have := hvN b e.symm; omega)]
    exact hh
  have d0 : w2.cell? ⟨b, 0, none⟩ = some (.pointer (some ⟨b, 0, none⟩)) := by rw [Lib.cell_of_heap hb2]; rfl
  have d1 : w2.cell? ⟨b, 1, none⟩ = some v := by rw [Lib.cell_of_heap hb2]; rfl
  have f1 : w2.frozen? ⟨b, 1, none⟩ = false := Lib.frozen_of_heap hb2 1
  obtain ⟨ao, n', cap, rfl⟩ : ∃ ao n' cap, v' = .slice ao n' cap := by
    rcases hown'.2 with ⟨hv, _⟩ | ⟨g, cap, cur, fz, hv, _⟩
    · exact ⟨_, _, _, hv⟩
    · exact ⟨_, _, _, hv⟩
  have K3 := k1.trans K2
  clear hown' hown hgrow K2 k1
  go_wp2
  go_ret2
  exact ⟨rfl, W2, K3⟩
set_option maxHeartbeats 2000000 in
/-- String: of a writer that holds at least one byte -/
theorem text_any {b N : Nat} {l : List UInt8} {w : World} (h : Wr w b N l) (h0 : l ≠ []) (hl : l.length ≤ 1099511627776) :
    Calls Tryz.prog 33 #[.pointer (some ⟨b, 0, none⟩)] w fun e w' => e = .returned (.string (tx l)) ∧ Wr w' b N l ∧ Keeps b N w w' := by
  obtain ⟨p, v, hp, hh, hv⟩ := h.is
  have hl0 : l.length ≠ 0 := by simpa using h0
  obtain ⟨g, cap, cur, fz, rfl, hbg, hg, hfz, hnc, hcm, hcs, htake⟩ : ∃ g cap cur fz, v = .slice (some ⟨g, 0, none⟩) l.length cap ∧ N ≤ g ∧ w.heap[g]? = some (.cells cur 5 fz) ∧ fz.2 ≤ l.length * 1 ∧ l.length ≤ cap ∧ cap ≤ maxLen ∧ cur.size = cap * 1 ∧ cur.toList.take (l.length * 1) = bytesV l := by
    rcases hv.2 with ⟨_, hz⟩ | ⟨g, cap, cur, fz, hv, r⟩
    · exact absurd hz hl0
    · exact ⟨g, cap, cur, fz, hv, r⟩
  have c1 : w.drew.cell? ⟨b, 1, none⟩ = some (.slice (some ⟨g, 0, none⟩) l.length cap) := by
    have : w.drew.heap[b]? = some (.cells #[p, .slice (some ⟨g, 0, none⟩) l.length cap] 65 (0, 0)) := hh
    rw [Lib.cell_of_heap this]; rfl
  have hSD : (Builtin.unsafeSliceData_ #[49] 81 #[.slice (some ⟨g, 0, none⟩) l.length cap]).run Tryz.prog w.drew = .ok (.pointer (some ⟨g, 0, none⟩)) w.drew :=
    Lib.run_unsafeSliceData_row _ _ _ _ _ _ (by omega)
  have hUS : (Builtin.unsafeString_ #[81, 3] 9 #[.pointer (some ⟨g, 0, none⟩), .int .i64 l.length]).run Tryz.prog w.drew = .ok (.string (tx l)) (w.drew.freeze ⟨g, 0, none⟩ l.length) := by
    have := Lib.run_unsafeString_row (P := Tryz.prog) w.drew 81 3 9 5 Tryz.underlying81 (by kernel_rfl) g cur.size (by have hg' : w.drew.heap[g]? = some (.cells cur 5 fz) := hg; simp [World.shape?, hg']) l (by simpa using h0) (by omega) (by omega) (by
      intro j x hx
      have := hv.cells (g := g) rfl j (.int .u8 x.toNat) (by rw [bytesV, List.getElem?_map, hx]; rfl)
      exact this)
    exact this
  have W2 : Wr (w.drew.freeze ⟨g, 0, none⟩ l.length) b N l := by
    have hb : Lib.BuilderAtF 65 5 b b p (bytesV l) w.drew := ⟨Nat.le_refl _, _, hh, by
      rw [bytesV_len]
      exact ⟨hv.1, .inr ⟨g, cap, cur, fz, rfl, by have := h.lo; omega, hg, hfz, hnc, hcm, hcs, htake⟩⟩, by simp [Value.ownBlock]; have := h.lo; omega⟩
    have hF := hb.froze (g := g) (cap := cap) (by rw [bytesV_len]; exact c1)
    rw [bytesV_len] at hF
    obtain ⟨_, v2, hh2, hv2, _⟩ := hF
    refine ⟨h.lo, ?_, p, v2, hp, hh2, ?_⟩
    · have := (keeps_freeze (b := b) (N := N) w.drew l.length hbg).size
      have h2 := h.hi
      exact Nat.le_trans h2 this
    · rw [bytesV_len] at hv2
      have e2 : w.drew.heap[b]? = some (.cells #[p, .slice (some ⟨g, 0, none⟩) l.length cap] 65 (0, 0)) := hh
      have e3 := (keeps_freeze (b := N) (N := N) w.drew l.length hbg).block b h.lo (by have := h.lo; omega)
      rw [hh2, e2] at e3
      have : v2 = .slice (some ⟨g, 0, none⟩) l.length cap := by simpa using e3
      subst this
      refine ⟨hv2.1, ?_⟩
      rcases hv2.2 with ⟨e4, _⟩ | ⟨g', cap', cur', fz', e4, _, r⟩
      · cases e4
      · injection e4 with e5 _ e6
        injection e5 with e7
        injection e7 with e8
        subst e8
        subst e6
        exact .inr ⟨g, cap, cur', fz', rfl, hbg, r⟩
  have K2 : Keeps b N w (w.drew.freeze ⟨g, 0, none⟩ l.length) := (Keeps.of_below ((Below.refl N w).drew)).trans (keeps_freeze w.drew l.length hbg)
  clear hv hg htake hp h
  go_enter Tryz.func33, Tryz.ntmps33
  go_wp2
  go_region
  all_goals (go_wp2; go_ret; exact ⟨rfl, W2, K2⟩)
set_option maxHeartbeats 2000000 in
/-- String: of one that holds nothing -/
theorem text_none {b : Nat} {w : World} (h : At w b 65 #[.pointer none, .slice none 0 0]) :
    Calls Tryz.prog 33 #[.pointer (some ⟨b, 0, none⟩)] w fun e w' => e = .returned (.string ⟨#[]⟩) ∧ Below w.heap.size w w' := by
  have c1 : w.drew.cell? ⟨b, 1, none⟩ = some (.slice none 0 0) := (h.drew).cell 1
  have hSD : (Builtin.unsafeSliceData_ #[49] 81 #[.slice none 0 0]).run Tryz.prog w.drew = .ok (.pointer none) w.drew := Lib.run_unsafeSliceData_nil _ _ _ _ _
  have hUS : (Builtin.unsafeString_ #[81, 3] 9 #[.pointer none, .int .i64 0]).run Tryz.prog w.drew = .ok (.string ⟨#[]⟩) w.drew := Lib.run_unsafeString_none _ _ _ _ _
  have K : Below w.heap.size w w.drew := (Below.refl _ _).drew
  clear h
  go_enter Tryz.func33, Tryz.ntmps33
  go_wp2
  go_region
  all_goals (go_wp2; go_ret; exact ⟨rfl, K⟩)
end Go.Proofs.YtdldoklkenhopaaGreatDoor.Ch
end

section
namespace Go.Proofs.YtdldoklkenhopaaGreatDoor.Ou
open Go.RowKit Go.PlainAid
open Hx Fi Ch In
set_option linter.unusedVariables false
set_option maxRecDepth 20000
set_option linter.unusedSimpArgs false

theorem get_len {α : Type} {xs : List α} {k : Nat} {x : α} (h : xs[k]? = some x) : k < xs.length := (List.getElem?_eq_some_iff.1 h).1
/-- the first fields are good -/
def GoodTo (xs : List Fi.Fd) (k : Nat) : Prop := ∀ x ∈ xs.take k, goodF x = true
theorem GoodTo.succ {xs : List Fi.Fd} {k : Nat} {x : Fi.Fd} (h : GoodTo xs k) (hx : xs[k]? = some x) (hg : goodF x = true) : GoodTo xs (k + 1) := by
  intro y hy
  rw [List.take_add_one, hx] at hy
  rcases List.mem_append.1 hy with hy | hy
  · exact h y hy
  · simp at hy; subst hy; exact hg
theorem GoodTo.all {xs : List Fi.Fd} {k : Nat} (h : GoodTo xs k) (hk : xs.length ≤ k) : xs.all goodF = true :=
  List.all_eq_true.2 fun x hx => h x (by rw [List.take_of_length_le hk]; exact hx)
theorem not_all {xs : List Fi.Fd} {k : Nat} {x : Fi.Fd} (hx : xs[k]? = some x) (hg : goodF x = false) : xs.all goodF = false := by
  rw [List.all_eq_false]
  exact ⟨x, List.mem_of_getElem? hx, by rw [hg]; decide⟩
set_option maxHeartbeats 4000000 in
theorem can_any {w : World} {v : Value} {xs : List Fi.Fd} (hv : FdsAt w v xs) (hl : xs.length ≤ 60) (hr : Fi.Reach xs) :
    Calls Tryz.prog 29 #[v] w fun e w' => e = .returned (.bool (decide (xs.length ≤ 32) && xs.all goodF)) ∧ Below w.heap.size w w' := by
  obtain ⟨base, cap, rfl, _, _⟩ := hv.is
  have HV := Lib.hid hv
  have HR := Lib.hid hr
  clear hv hr
  obtain ⟨n, hn⟩ : ∃ n, n = xs.length := ⟨_, rfl⟩
  rw [← hn] at HV hl ⊢
  have HN := Lib.hid hn
  clear hn
  by_cases h32 : n ≤ 32
  · rw [show decide (n ≤ 32) = true from decide_eq_true h32, Bool.true_and]
    obtain ⟨r, hr⟩ : ∃ r, xs.all goodF = r := ⟨_, rfl⟩
    rw [hr]
    have HQ := Lib.hid hr
    clear hr
    have l0 : ¬ (32 : Int) < (n : Int) := by omega
    go_enter Tryz.func29, Tryz.ntmps29
    go_wp2
    go_loopw [10] (fun i wr => ∃ k : Nat, k ≤ n ∧ i = .int .i64 k ∧ Hid (GoodTo xs k) ∧ Below w.heap.size w wr) (fun i _ => n - (intOf i).toNat)
    case atStart => exact ⟨0, Nat.zero_le _, rfl, Lib.hid (by intro x hx; simp at hx), Below.refl _ _⟩
    case round =>
      obtain ⟨k, hk, rfl, HG, bel⟩ := hrel
      by_cases hlt : k < n
      · have l1 : (k : Int) < (n : Int) := by omega
        obtain ⟨x, hx⟩ : ∃ x, xs[k]? = some x := ⟨xs[k]'(by have := HN.out; omega), List.getElem?_eq_getElem _⟩
        obtain ⟨a, rfl, ha, L1, _, _⟩ := (HV.out.below bel).loads hx
        obtain ⟨r1, r2⟩ := HR.out x (List.mem_of_getElem? hx)
        obtain ⟨w2, S2, A2, G2, Z2⟩ := fd_keep wr x
        have L2 := fd_loads A2
        have bel2 := bel.trans (G2.mono bel.size)
        have gd := fun w => good_any x w (by omega) (by omega)
        have HX := Lib.hid hx
        clear hx bel G2 Z2 A2 r1 r2
        generalize hB : wr.heap.size = B at S2 L2
        cases hg : goodF x with
        | false =>
          have E : r = false := by rw [← HQ.out]; exact not_all HX.out hg
          subst E
          rw [hg] at gd
          clear hg
          go_wp2_with (first | refine wpl_load L1 rfl rfl rfl ?_ | refine wpl_load L2 rfl rfl rfl ?_ | refine wpl_store S2 rfl rfl rfl (by rw [← hB]; rfl) rfl ?_)
          refine (gd _).mono ?_
          rintro e w3 ⟨rfl, G3⟩
          have bel3 := bel2.trans (G3.mono bel2.size)
          clear gd S2 L2 L1 bel2 G3
          go_wp2
          go_ret
          exact ⟨rfl, bel3⟩
        | true =>
          have NX := Lib.hid (HG.out.succ HX.out hg)
          rw [hg] at gd
          clear hg HG
          go_wp2_with (first | refine wpl_load L1 rfl rfl rfl ?_ | refine wpl_load L2 rfl rfl rfl ?_ | refine wpl_store S2 rfl rfl rfl (by rw [← hB]; rfl) rfl ?_)
          refine (gd _).mono ?_
          rintro e w3 ⟨rfl, G3⟩
          have bel3 := bel2.trans (G3.mono bel2.size)
          clear gd S2 L2 L1 bel2 G3
          go_wp2
          go_roundw
          case rel => exact ⟨k + 1, by omega, by go_num, NX, bel3⟩
          case measure => simp [intOf]; omega
      · have l1 : ¬ (k : Int) < (n : Int) := by omega
        have E : r = true := by rw [← HQ.out]; exact HG.out.all (by have := HN.out; omega)
        subst E
        go_wp2
        go_ret
        exact ⟨rfl, bel⟩
  · rw [show decide (n ≤ 32) = false from decide_eq_false h32, Bool.false_and]
    have l0 : (32 : Int) < (n : Int) := by omega
    go_enter Tryz.func29, Tryz.ntmps29
    go_wp2
    go_ret
    exact ⟨rfl, Below.refl _ _⟩
theorem sum_reach {xs : List Fi.Fd} (h : Fi.Reach xs) : ∀ k : Nat, k ≤ xs.length → sumF (xs.take k) ≤ k * 281474976710660
  | 0, _ => by simp [sumF]
  | k + 1, hk => by
    have ih := sum_reach h k (by omega)
    have hx : xs[k]? = some (xs[k]'(by omega)) := List.getElem?_eq_getElem _
    obtain ⟨r1, r2⟩ := h _ (List.mem_of_getElem? hx)
    rw [sum_take hx]
    omega
set_option maxHeartbeats 4000000 in
theorem size_any {w : World} {v : Value} {xs : List Fi.Fd} (st : ByteArray) (hv : FdsAt w v xs) (hs : st.size ≤ 1048576) (hl : xs.length ≤ 60) (hr : Fi.Reach xs) :
    Calls Tryz.prog 30 #[.string st, v] w fun e w' => e = .returned (.int .i64 ((headF (ls st) xs).length : Nat)) ∧ Below w.heap.size w w' := by
  obtain ⟨base, cap, rfl, _, _⟩ := hv.is
  rw [head_sum, ls_len]
  have HV := Lib.hid hv
  have HR := Lib.hid hr
  clear hv hr
  obtain ⟨n, hn⟩ : ∃ n, n = xs.length := ⟨_, rfl⟩
  rw [← hn] at HV hl ⊢
  have HN := Lib.hid hn
  clear hn
  obtain ⟨S, hS⟩ : ∃ S, sumF xs = S := ⟨_, rfl⟩
  rw [hS]
  have HS := Lib.hid hS
  clear hS
  go_enter Tryz.func30, Tryz.ntmps30
  go_wp2
  go_loopw [5, 14] (fun s i wr => ∃ k T : Nat, k ≤ n ∧ i = .int .i64 k ∧ s = .int .i64 T ∧ Hid (T = st.size + 4 + sumF (xs.take k)) ∧ T ≤ 1048580 + k * 281474976710660 ∧ Below w.heap.size w wr) (fun _ i _ => n - (intOf i).toNat)
  case atStart => exact ⟨0, st.size + 4, Nat.zero_le _, rfl, by go_num, Lib.hid (by simp [sumF]), by omega, Below.refl _ _⟩
  case round =>
    obtain ⟨k, T, hk, rfl, rfl, HT, hT, bel⟩ := hrel
    by_cases hlt : k < n
    · have l1 : (k : Int) < (n : Int) := by omega
      obtain ⟨x, hx⟩ : ∃ x, xs[k]? = some x := ⟨xs[k]'(by have := HN.out; omega), List.getElem?_eq_getElem _⟩
      obtain ⟨a, rfl, ha, L1, _, _⟩ := (HV.out.below bel).loads hx
      obtain ⟨r1, r2⟩ := HR.out x (List.mem_of_getElem? hx)
      obtain ⟨w2, S2, A2, G2, Z2⟩ := fd_keep wr x
      have c0 : w2.cell? ⟨wr.heap.size, 0, none⟩ = some (.string x.n) := A2.cell 0
      have c1 : w2.cell? ⟨wr.heap.size, 1, none⟩ = some (.string x.v) := A2.cell 1
      have bel2 := bel.trans (G2.mono bel.size)
      have NX := Lib.hid (show T + (x.n.size + 2 + x.v.size + 2) = st.size + 4 + sumF (xs.take (k + 1)) by rw [sum_take hx, HT.out]; omega)
      have HX := Lib.hid hx
      clear hx bel G2 Z2 A2 HT
      generalize hB : wr.heap.size = B at S2 c0 c1
      go_wp2_with (first | refine wpl_load L1 rfl rfl rfl ?_ | refine wpl_store S2 rfl rfl rfl (by rw [← hB]; rfl) rfl ?_)
      go_roundw
      case rel => exact ⟨k + 1, T + (x.n.size + 2 + x.v.size + 2), by omega, by go_num, by go_num, NX, by omega, bel2⟩
      case measure => simp [intOf]; omega
    · have l1 : ¬ (k : Int) < (n : Int) := by omega
      have E : T = st.size + 4 + S := by rw [HT.out, List.take_of_length_le (by have := HN.out; omega), HS.out]
      go_wp2
      go_ret
      exact ⟨rfl, bel⟩
end Go.Proofs.YtdldoklkenhopaaGreatDoor.Ou
end

section
namespace Go.Proofs.YtdldoklkenhopaaGreatDoor.Ou
open Go.RowKit Go.PlainAid
open Hx Fi Ch In
set_option linter.unusedVariables false
set_option maxRecDepth 20000
set_option linter.unusedSimpArgs false

theorem lay_bad {st : List UInt8} {xs : List Fi.Fd} (h : (decide (xs.length ≤ 32) && xs.all goodF) = false) : layE st xs = 1 ∧ layS st xs = ⟨#[]⟩ := by
  rw [Bool.and_eq_false_iff] at h
  rcases h with h | h
  · exact lay_many (by have := of_decide_eq_false h; omega)
  · rw [List.all_eq_false] at h
    obtain ⟨f, hf, hg⟩ := h
    exact lay_form hf (by simpa using hg)
/-- what the writer holds behind k fields -/
def outTo (st : List UInt8) (xs : List Fi.Fd) (k : Nat) : List UInt8 := st ++ 13 :: 10 :: linesF (xs.take k)
theorem out_zero (st : List UInt8) (xs : List Fi.Fd) : outTo st xs 0 = [] ++ (st ++ [13, 10]) := by simp [outTo, linesF]
theorem out_succ (st : List UInt8) {xs : List Fi.Fd} {k : Nat} {x : Fi.Fd} (h : xs[k]? = some x) : outTo st xs (k + 1) = outTo st xs k ++ (printF x ++ [13, 10]) := by
  unfold outTo
  rw [lines_take h]
  simp
theorem out_all (st : List UInt8) {xs : List Fi.Fd} {k : Nat} (h : xs.length ≤ k) : outTo st xs k ++ [13, 10] = headF st xs := by
  unfold outTo headF
  rw [List.take_of_length_le h]
  simp
theorem out_len (st : List UInt8) (xs : List Fi.Fd) (k : Nat) : (outTo st xs k).length + 2 ≤ (headF st xs).length := by
  rw [head_sum]
  unfold outTo
  have := sum_take_le xs k
  simp only [List.length_append, List.length_cons, lines_sum]
  omega
theorem out_next (st : List UInt8) {xs : List Fi.Fd} {k : Nat} {x : Fi.Fd} (h : xs[k]? = some x) : (outTo st xs k).length + (printF x).length + 4 ≤ (headF st xs).length := by
  have h1 := out_len st xs (k + 1)
  rw [out_succ st h] at h1
  simp only [List.length_append, List.length_cons, List.length_nil] at h1
  omega
set_option maxHeartbeats 4000000 in
theorem head_any {w : World} {v : Value} {xs : List Fi.Fd} (st : ByteArray) (hv : FdsAt w v xs) (hs : st.size ≤ 1048576) (hl : xs.length ≤ 60) (hr : Fi.Reach xs) :
    Calls Tryz.prog 16 #[.string st, v] w fun e w' => e = .returned (.tuple #[.string (layS (ls st) xs), .int .i64 (layE (ls st) xs)]) ∧ Below w.heap.size w w' := by
  obtain ⟨base, cap, rfl, _, _⟩ := hv.is
  have cn := can_any hv hl hr
  obtain ⟨r, hq⟩ : ∃ r, (decide (xs.length ≤ 32) && xs.all goodF) = r := ⟨_, rfl⟩
  rw [hq] at cn
  cases r with
  | false =>
    obtain ⟨e1, e2⟩ := lay_bad (st := ls st) hq
    rw [e1, e2]
    clear e1 e2 hq hv hr
    go_enter Tryz.func16, Tryz.ntmps16
    go_wp2_with fail
    refine cn.mono ?_
    rintro e w1 ⟨rfl, F1⟩
    go_wp2
    go_ret2
    exact ⟨rfl, F1⟩
  | true =>
    rw [Bool.and_eq_true] at hq
    obtain ⟨q1, q2⟩ := hq
    have q3 : xs.length ≤ 32 := of_decide_eq_true q1
    have sz := fun (z : World) (b : Below w.heap.size w z) => size_any (w := z) st (hv.below b) hs hl hr
    obtain ⟨T, hT⟩ : ∃ T, (headF (ls st) xs).length = T := ⟨_, rfl⟩
    rw [hT] at sz
    by_cases h4 : 4096 < T
    · obtain ⟨e1, e2⟩ := lay_long (st := ls st) q3 (List.all_eq_true.1 q2) (by omega)
      rw [e1, e2]
      have i1 : (4096 : Int) < (T : Int) := by omega
      clear e1 e2 q1 q2 q3 hv hr hT h4
      go_enter Tryz.func16, Tryz.ntmps16
      go_wp2_with fail
      refine cn.mono ?_
      rintro e w1 ⟨rfl, F1⟩
      have s1 := sz _ F1
      go_wp2_with fail
      refine s1.mono ?_
      rintro e w2 ⟨rfl, F2⟩
      replace F1 := F1.trans (F2.mono F1.size)
      clear s1 sz F2 cn
      go_wp2
      go_ret2
      exact ⟨rfl, F1⟩
    · obtain ⟨e1, e2⟩ := lay_good (st := ls st) q3 (List.all_eq_true.1 q2) (by omega)
      rw [e1, e2]
      have i1 : ¬ (4096 : Int) < (T : Int) := by omega
      obtain ⟨H, hH⟩ : ∃ H, tx (headF (ls st) xs) = H := ⟨_, rfl⟩
      rw [hH]
      have HH := Lib.hid hH
      have HT := Lib.hid hT
      have HV := Lib.hid hv
      have HR := Lib.hid hr
      have z1 : (⟨#[13, 10]⟩ : ByteArray).size = 2 := rfl
      have Z0 := Lib.hid (out_zero (ls st) xs)
      have e0 : ls (st ++ (⟨#[13, 10]⟩ : ByteArray)) = ls st ++ [13, 10] := by rw [ls_append]; rfl
      have E0 := Lib.hid e0
      clear e1 e2 q1 q2 q3 hv hr hT hH e0
      obtain ⟨n, hn⟩ : ∃ n, n = xs.length := ⟨_, rfl⟩
      rw [← hn] at HV hl cn sz ⊢
      have HN := Lib.hid hn
      clear hn
      go_enter Tryz.func16, Tryz.ntmps16
      go_wp2_with fail
      refine cn.mono ?_
      rintro e w1 ⟨rfl, F1⟩
      have s1 := sz _ F1
      go_wp2_with fail
      refine s1.mono ?_
      rintro e w2 ⟨rfl, F2⟩
      replace F1 := F1.trans (F2.mono F1.size)
      clear s1 sz F2 cn
      have W0 : Wr (w2.alloc (.cells #[.pointer none, .slice none 0 0] 65)) w2.heap.size (w2.heap.size + 1) [] :=
        ⟨by omega, by simp, .pointer none, .slice none 0 0, .inl rfl, heap_alloc_new w2 _, ⟨rfl, .inl ⟨rfl, rfl⟩⟩⟩
      have B0 := F1.alloc F1.size (.cells #[.pointer none, .slice none 0 0] 65)
      have hB := F1.size
      clear F1
      go_upto_region 6 with (fail)
      generalize w2.alloc (.cells #[.pointer none, .slice none 0 0] 65) = w3 at W0 B0 ⊢
      generalize w2.heap.size = B at W0 hB ⊢
      have c1 := string_any W0 (st ++ ⟨#[13, 10]⟩) (by rw [ByteArray.size_append, z1]; simp; omega)
      go_wp2_with fail
      refine c1.mono ?_
      rintro e w4 ⟨rfl, W1, k1⟩
      have B1 := k1.below B0 (by omega) hB
      rw [E0.out, ← Z0.out] at W1
      clear c1 k1 B0 W0 Z0 E0
      go_wp2
      go_loopw [21] (fun i wr => ∃ k : Nat, k ≤ n ∧ i = .int .i64 k ∧ Wr wr B (B + 1) (outTo (ls st) xs k) ∧ Below w.heap.size w wr) (fun i _ => n - (intOf i).toNat)
      case atStart => exact ⟨0, Nat.zero_le _, rfl, W1, B1⟩
      case round =>
        clear W1 B1
        obtain ⟨k, hk, rfl, W, bel⟩ := hrel
        by_cases hlt : k < n
        · have l1 : (k : Int) < (n : Int) := by omega
          obtain ⟨x, hx⟩ : ∃ x, xs[k]? = some x := ⟨xs[k]'(by have := HN.out; omega), List.getElem?_eq_getElem _⟩
          obtain ⟨a, rfl, ha, L1, _, _⟩ := (HV.out.below bel).loads hx
          obtain ⟨r1, r2⟩ := HR.out x (List.mem_of_getElem? hx)
          obtain ⟨wz, S2, A2, G2, Z2⟩ := fd_keep wr x
          have L2 := fd_loads A2
          have bel2 := bel.trans (G2.mono bel.size)
          have W2 := W.below G2 (Nat.le_refl _)
          have pr := fun w => print_any x w (by omega) (by omega)
          have hno := out_next (ls st) hx
          have hsz : (tx (printF x)).size ≤ 4096 := by rw [tx_size]; have := HT.out; omega
          have NX := Lib.hid (out_succ (ls st) hx)
          have e0 : ls (tx (printF x) ++ (⟨#[13, 10]⟩ : ByteArray)) = printF x ++ [13, 10] := by rw [ls_append, ls_tx]; rfl
          have E0 := Lib.hid e0
          have hw := W.hi
          have ol : (outTo (ls st) xs k).length ≤ 4096 := by have := HT.out; omega
          clear hx bel G2 Z2 A2 r1 r2 e0 hno W
          generalize hB : wr.heap.size = C at S2 L2 hw
          generalize tx (printF x) = P at pr hsz E0
          go_wp2_with (first | refine wpl_load L1 rfl rfl rfl ?_ | refine wpl_load L2 rfl rfl rfl ?_ | refine wpl_store S2 rfl rfl rfl (by rw [← hB]; rfl) rfl ?_)
          refine (pr _).mono ?_
          rintro e w5 ⟨rfl, G3⟩
          have bel3 := bel2.trans (G3.mono bel2.size)
          have W3 := W2.below G3 (Nat.le_refl _)
          clear pr S2 L2 L1 bel2 W2 G3
          have c2 := string_any W3 (P ++ ⟨#[13, 10]⟩) (by rw [ByteArray.size_append, z1]; omega)
          rw [E0.out, ← NX.out] at c2
          clear E0 NX
          go_wp2_with fail
          refine c2.mono ?_
          rintro e w6 ⟨rfl, W4, k4⟩
          have B4 := k4.below bel3 (by omega) (by omega)
          clear c2 k4 bel3 W3
          go_wp2
          go_roundw
          case rel => exact ⟨k + 1, by omega, by go_num, W4, B4⟩
          case measure => simp [intOf]; omega
        · have l1 : ¬ (k : Int) < (n : Int) := by omega
          have ol := out_len (ls st) xs k
          have oa := out_all (ls st) (xs := xs) (k := k) (by have := HN.out; omega)
          have c3 := string_any W ⟨#[13, 10]⟩ (by rw [z1]; have := HT.out; omega)
          rw [show ls (⟨#[13, 10]⟩ : ByteArray) = [13, 10] from rfl, oa] at c3
          have hne : headF (ls st) xs ≠ [] := by unfold headF; simp
          have hle : (headF (ls st) xs).length ≤ 1099511627776 := by have := HT.out; omega
          have NE := Lib.hid hne
          have LE := Lib.hid hle
          clear hne hle ol oa W
          go_wp2_with fail
          refine c3.mono ?_
          rintro e w6 ⟨rfl, W4, k4⟩
          have B4 := k4.below bel (by omega) (by omega)
          have c4 := text_any W4 NE.out LE.out
          rw [HH.out] at c4
          clear c3 k4 bel W4
          go_wp2_with fail
          refine c4.mono ?_
          rintro e w7 ⟨rfl, W5, k5⟩
          have B5 := k5.below B4 (by omega) (by omega)
          clear c4 k5 B4 W5
          go_wp2
          go_ret2
          exact ⟨rfl, B5⟩
end Go.Proofs.YtdldoklkenhopaaGreatDoor.Ou
end

section
namespace Go.Proofs.YtdldoklkenhopaaGreatDoor.Ou
open Go.RowKit Go.PlainAid
open Hx Fi Ch In
set_option linter.unusedVariables false
set_option maxRecDepth 20000
set_option linter.unusedSimpArgs false

theorem rea_none {n : Int} (h200 : ¬ n = 200) (h206 : ¬ n = 206) (h304 : ¬ n = 304) (h400 : ¬ n = 400) (h404 : ¬ n = 404) (h405 : ¬ n = 405) (h406 : ¬ n = 406) (h413 : ¬ n = 413) (h416 : ¬ n = 416) (h431 : ¬ n = 431) (h502 : ¬ n = 502) (h503 : ¬ n = 503) (h504 : ¬ n = 504) (h505 : ¬ n = 505) : reaB n = ⟨#[85, 110, 107, 110, 111, 119, 110]⟩ := by
  unfold reaB
  rw [if_neg h200, if_neg h206, if_neg h304, if_neg h400, if_neg h404, if_neg h405, if_neg h406, if_neg h413, if_neg h416, if_neg h431, if_neg h502, if_neg h503, if_neg h504, if_neg h505]
set_option maxHeartbeats 2000000 in
theorem reason_any (n : Int) (w : World) :
    Calls Tryz.prog 22 #[.int .i64 n] w fun e w' => e = .returned (.string (reaB n)) ∧ w = w' := by
  by_cases h200 : n = 200
  · subst h200
    skip
    go_enter Tryz.func22, Tryz.ntmps22
    go_wp2
    go_ret
    exact ⟨rfl, rfl⟩
  by_cases h206 : n = 206
  · subst h206
    clear h200
    go_enter Tryz.func22, Tryz.ntmps22
    go_wp2
    go_ret
    exact ⟨rfl, rfl⟩
  by_cases h304 : n = 304
  · subst h304
    clear h200 h206
    go_enter Tryz.func22, Tryz.ntmps22
    go_wp2
    go_ret
    exact ⟨rfl, rfl⟩
  by_cases h400 : n = 400
  · subst h400
    clear h200 h206 h304
    go_enter Tryz.func22, Tryz.ntmps22
    go_wp2
    go_ret
    exact ⟨rfl, rfl⟩
  by_cases h404 : n = 404
  · subst h404
    clear h200 h206 h304 h400
    go_enter Tryz.func22, Tryz.ntmps22
    go_wp2
    go_ret
    exact ⟨rfl, rfl⟩
  by_cases h405 : n = 405
  · subst h405
    clear h200 h206 h304 h400 h404
    go_enter Tryz.func22, Tryz.ntmps22
    go_wp2
    go_ret
    exact ⟨rfl, rfl⟩
  by_cases h406 : n = 406
  · subst h406
    clear h200 h206 h304 h400 h404 h405
    go_enter Tryz.func22, Tryz.ntmps22
    go_wp2
    go_ret
    exact ⟨rfl, rfl⟩
  by_cases h413 : n = 413
  · subst h413
    clear h200 h206 h304 h400 h404 h405 h406
    go_enter Tryz.func22, Tryz.ntmps22
    go_wp2
    go_ret
    exact ⟨rfl, rfl⟩
  by_cases h416 : n = 416
  · subst h416
    clear h200 h206 h304 h400 h404 h405 h406 h413
    go_enter Tryz.func22, Tryz.ntmps22
    go_wp2
    go_ret
    exact ⟨rfl, rfl⟩
  by_cases h431 : n = 431
  · subst h431
    clear h200 h206 h304 h400 h404 h405 h406 h413 h416
    go_enter Tryz.func22, Tryz.ntmps22
    go_wp2
    go_ret
    exact ⟨rfl, rfl⟩
  by_cases h502 : n = 502
  · subst h502
    clear h200 h206 h304 h400 h404 h405 h406 h413 h416 h431
    go_enter Tryz.func22, Tryz.ntmps22
    go_wp2
    go_ret
    exact ⟨rfl, rfl⟩
  by_cases h503 : n = 503
  · subst h503
    clear h200 h206 h304 h400 h404 h405 h406 h413 h416 h431 h502
    go_enter Tryz.func22, Tryz.ntmps22
    go_wp2
    go_ret
    exact ⟨rfl, rfl⟩
  by_cases h504 : n = 504
  · subst h504
    clear h200 h206 h304 h400 h404 h405 h406 h413 h416 h431 h502 h503
    go_enter Tryz.func22, Tryz.ntmps22
    go_wp2
    go_ret
    exact ⟨rfl, rfl⟩
  by_cases h505 : n = 505
  · subst h505
    clear h200 h206 h304 h400 h404 h405 h406 h413 h416 h431 h502 h503 h504
    go_enter Tryz.func22, Tryz.ntmps22
    go_wp2
    go_ret
    exact ⟨rfl, rfl⟩
  rw [rea_none h200 h206 h304 h400 h404 h405 h406 h413 h416 h431 h502 h503 h504 h505]
  have g200 : (n == 200) = false := beq_eq_false_iff_ne.2 h200
  have g206 : (n == 206) = false := beq_eq_false_iff_ne.2 h206
  have g304 : (n == 304) = false := beq_eq_false_iff_ne.2 h304
  have g400 : (n == 400) = false := beq_eq_false_iff_ne.2 h400
  have g404 : (n == 404) = false := beq_eq_false_iff_ne.2 h404
  have g405 : (n == 405) = false := beq_eq_false_iff_ne.2 h405
  have g406 : (n == 406) = false := beq_eq_false_iff_ne.2 h406
  have g413 : (n == 413) = false := beq_eq_false_iff_ne.2 h413
  have g416 : (n == 416) = false := beq_eq_false_iff_ne.2 h416
  have g431 : (n == 431) = false := beq_eq_false_iff_ne.2 h431
  have g502 : (n == 502) = false := beq_eq_false_iff_ne.2 h502
  have g503 : (n == 503) = false := beq_eq_false_iff_ne.2 h503
  have g504 : (n == 504) = false := beq_eq_false_iff_ne.2 h504
  have g505 : (n == 505) = false := beq_eq_false_iff_ne.2 h505
  clear h200 h206 h304 h400 h404 h405 h406 h413 h416 h431 h502 h503 h504 h505
  go_enter Tryz.func22, Tryz.ntmps22
  go_wp2
  go_ret
  exact ⟨rfl, rfl⟩
def boF (n : Int) (head : Bool) : Bool := head || decide (100 ≤ n ∧ n ≤ 199) || decide (n = 204) || decide (n = 304)
set_option maxHeartbeats 2000000 in
theorem bodyless_any (n : Int) (head : Bool) (w : World) :
    Calls Tryz.prog 12 #[.int .i64 n, .bool head] w fun e w' => e = .returned (.bool (boF n head)) ∧ w = w' := by
  cases head with
  | true =>
    go_enter Tryz.func12, Tryz.ntmps12
    go_wp2
    go_ret
    exact ⟨rfl, rfl⟩
  | false =>
    by_cases h4 : n = 204
    · subst h4
      go_enter Tryz.func12, Tryz.ntmps12
      go_wp2
      go_ret
      exact ⟨rfl, rfl⟩
    by_cases h3 : n = 304
    · subst h3
      go_enter Tryz.func12, Tryz.ntmps12
      go_wp2
      go_ret
      exact ⟨rfl, rfl⟩
    have g4 : (n == 204) = false := beq_eq_false_iff_ne.2 h4
    have g3 : (n == 304) = false := beq_eq_false_iff_ne.2 h3
    by_cases h1 : (100 : Int) ≤ n
    · by_cases h2 : n ≤ 199
      · rw [show boF n false = true by unfold boF; simp [h1, h2]]
        clear h3 h4
        go_enter Tryz.func12, Tryz.ntmps12
        go_wp2
        go_ret
        exact ⟨rfl, rfl⟩
      · rw [show boF n false = false by unfold boF; simp [h1, h2, h3, h4]]
        clear h3 h4
        go_enter Tryz.func12, Tryz.ntmps12
        go_wp2
        go_ret
        exact ⟨rfl, rfl⟩
    · rw [show boF n false = false by unfold boF; simp [h1, h3, h4]]
      clear h3 h4
      go_enter Tryz.func12, Tryz.ntmps12
      go_wp2
      go_ret
      exact ⟨rfl, rfl⟩
end Go.Proofs.YtdldoklkenhopaaGreatDoor.Ou
end

section
namespace Go.Proofs.YtdldoklkenhopaaGreatDoor.Fi
open Go.RowKit Go.PlainAid
open Hx
set_option linter.unusedVariables false
set_option maxRecDepth 20000
set_option linter.unusedSimpArgs false

theorem results_tmp4 {fn : Func} {t u v x : Tmp} (h : fn.results = #[.tmp t, .tmp u, .tmp v, .tmp x]) (tmps : Array Value) (P : Program) (w : World) :
    (results fn tmps).run P w = .ok (.tuple #[tmps.getD t undef, tmps.getD u undef, tmps.getD v undef, tmps.getD x undef]) w := by
  simp [results, h]
theorem spl_st (s : List UInt8) : spl s = match stF (decide (4096 ≤ s.length)) (s.take 4096) with
    | .error e => ⟨e, [], [], 0⟩
    | .ok (x, r) =>
      let o := fldF (decide (4096 ≤ s.length)) r (x.length + 2) []
      ⟨o.err, if o.err = 0 then x else [], o.list, o.n⟩ := by
  unfold spl stF
  cases h : lineF (decide (4096 ≤ s.length)) (s.take 4096) with
  | error e => rfl
  | ok p =>
    obtain ⟨x, r⟩ := p
    simp only
    by_cases hx : x = []
    · rw [if_pos hx, if_pos hx]
    · rw [if_neg hx, if_neg hx]
      by_cases hc : 1024 < x.length
      · rw [if_pos hc, if_pos hc]
      · rw [if_neg hc, if_neg hc]
theorem stF_ok {full : Bool} {l x r : List UInt8} (h : stF full l = .ok (x, r)) : lineF full l = .ok (x, r) := by
  unfold stF at h
  cases hq : lineF full l with
  | error e => rw [hq] at h; cases h
  | ok p =>
    obtain ⟨y, z⟩ := p
    rw [hq] at h
    simp only at h
    split at h
    · cases h
    · split at h
      · cases h
      · simpa using h
theorem fldF_err0 (full : Bool) : ∀ (k : Nat) (l : List UInt8), l.length ≤ k → ∀ (at_ : Nat) (acc : List Fd), (fldF full l at_ acc).err ≠ 0 → fldF full l at_ acc = ⟨(fldF full l at_ acc).err, [], 0⟩ := by
  intro k
  induction k with
  | zero =>
    intro l hl at_ acc h
    have : l = [] := List.eq_nil_of_length_eq_zero (by omega)
    subst this
    rw [fldF_err at_ acc lineF_nil]
  | succ k ih =>
    intro l hl at_ acc h
    cases hq : lineF full l with
    | error e => rw [fldF_err at_ acc hq]
    | ok p =>
      obtain ⟨x, r⟩ := p
      have hlen := lineF_len hq
      by_cases hx : x = []
      · subst hx; rw [fldF_end at_ acc hq] at h; exact absurd rfl h
      · cases hp : parseF x with
        | none => rw [fldF_form at_ acc hq hx hp]
        | some f =>
          by_cases hc : acc.length = 32
          · rw [fldF_long at_ acc hq hx hp hc]
          · rw [fldF_step at_ acc hq hx hp hc] at h ⊢
            exact ih r (by omega) _ _ h
theorem stF_ne {full : Bool} {l : List UInt8} {e : Int} (h : stF full l = .error e) : e = 3 ∨ e = 4 ∨ e = 17 := by
  unfold stF at h
  cases hq : lineF full l with
  | error e' => rw [hq] at h; simp only [Except.error.injEq] at h; subst h; exact lineF_ne hq
  | ok p =>
    obtain ⟨y, z⟩ := p
    rw [hq] at h
    simp only at h
    split at h
    · cases h; omega
    · split at h
      · cases h; omega
      · cases h
def SplitPost (H : Hd) (w : World) (e : Ending) (w' : World) : Prop := ∃ v, e = .returned (.tuple #[.string (tx H.start), v, .int .i64 H.n, .int .i64 H.err]) ∧ FdsAt w' v H.list ∧ Below w.heap.size w w'
/-- and its fields lie in a block of its own -/
def SplitPostN (H : Hd) (w : World) (e : Ending) (w' : World) : Prop := ∃ v, e = .returned (.tuple #[.string (tx H.start), v, .int .i64 H.n, .int .i64 H.err]) ∧ FdsAt w' v H.list ∧ Below w.heap.size w w' ∧ ∀ b, v.ownBlock = some b → w.heap.size ≤ b
theorem split_badN {H : Hd} {er : Int} {w w' : World} (h : H = ⟨er, [], [], 0⟩) (hb : Below w.heap.size w w') : SplitPostN H w (.returned (.tuple #[.string ⟨#[]⟩, .slice none 0 0, .int .i64 0, .int .i64 er])) w' := by
  subst h
  exact ⟨_, rfl, none_fds _, hb, fun b h => by simp [Value.ownBlock] at h⟩
theorem split_bad {H : Hd} {er : Int} {w w' : World} (h : H = ⟨er, [], [], 0⟩) (hb : Below w.heap.size w w') : SplitPost H w (.returned (.tuple #[.string ⟨#[]⟩, .slice none 0 0, .int .i64 0, .int .i64 er])) w' := by
  subst h
  exact ⟨_, rfl, none_fds _, hb⟩
set_option maxHeartbeats 1000000 in
theorem split_short (s : ByteArray) (w : World) (hs : s.size ≤ 1099511627776) (hc : s.size ≤ 4096) :
    Calls Tryz.prog 35 #[.string s] w (SplitPostN (spl (ls s)) w) := by
  have hh : ls s = (ls s).take 4096 := by
    exact (List.take_of_length_le (by rw [ls_len]; exact hc)).symm
  have hz : s.size = s.size := rfl
  have hf : decide (s.size = 4096) = decide (4096 ≤ (ls s).length) := by
    rw [hz, ls_len]; exact decide_eq_decide.2 (by omega)
  have r1 : ∀ w, Calls Tryz.prog 54 #[.string s] w (StPost (decide (4096 ≤ (ls s).length)) ((ls s).take 4096) w) := fun w => by
    rw [← hf, ← hh]; exact startOf_any _ w (by rw [hz]; omega)
  have r2 : ∀ (k : Nat) w, k ≤ s.size → Calls Tryz.prog 55 #[.string s, .int .i64 k] w (FldPost (fldF (decide (4096 ≤ (ls s).length)) (((ls s).take 4096).drop k) k []) w) := fun k w hk => by
    rw [← hf, ← hh]; exact fieldsFrom_any _ k w (by rw [hz]; omega) hk
  rw [hz] at r2
  have hsp := spl_st (ls s)
  generalize hH : spl (ls s) = H at hsp
  have m1 : (s.size : Int) ≤ 4096 := by omega
  have hll : (List.take 4096 (ls s)).length = s.size := by rw [List.length_take, ls_len]; omega
  clear hh hz hf hH
  cases h : stF (decide (4096 ≤ (ls s).length)) ((ls s).take 4096) with
  | error e0 =>
    rw [h] at hsp
    have HS := Lib.hid hsp
    have hne := stF_ne h
    have g : (e0 != 0) = true := by rw [bne_iff_ne]; omega
    have H1 := Lib.hid h
    clear h hsp hne r2 hll
    go_enter Tryz.func35, Tryz.ntmps35
    go_wp2_with fail
    refine (r1 _).mono ?_
    rintro e w1 ⟨hp, G⟩
    clear r1
    rcases hp with ⟨x, r, h2, _⟩ | ⟨e1, h2, rfl⟩
    · have := H1.out; rw [h2] at this; cases this
    obtain rfl : e1 = e0 := by
      have := H1.out
      rw [h2] at this
      cases this; rfl
    clear h2
    go_wp2
    refine bodyPost_ret (results_tmp4 Tryz.results35 _ _ _) rfl ?_
    exact split_badN HS.out G
  | ok p =>
    obtain ⟨x, r⟩ := p
    rw [h] at hsp
    simp only at hsp
    have hlin := (lineF_ok (stF_ok h)).1
    have hlen := lineF_len (stF_ok h)
    rw [hll] at hlen
    have hdr : (List.take 4096 (ls s)).drop (x.length + 2) = r := by
      rw [hlin, show x ++ 13 :: 10 :: r = (x ++ [13, 10]) ++ r by simp, List.drop_left' (by simp)]
    have r3 := fun w => r2 (x.length + 2) w (by omega)
    rw [hdr] at r3
    generalize hO : fldF (decide (4096 ≤ (ls s).length)) r (x.length + 2) [] = O at r3 hsp
    have hoe : O.err ≠ 0 → O = ⟨O.err, [], 0⟩ := by rw [← hO]; exact fldF_err0 _ _ _ (Nat.le_refl _) _ _
    have H1 := Lib.hid h
    have HL := Lib.hid hlen
    clear h r2 hll hlin hlen hdr hO
    have hxl : x.length + 2 ≤ 4096 := by have := HL.out; omega
    have cl := fun w => clone_any (tx x) w (by rw [tx_size]; omega)
    by_cases ho : O.err = 0
    · rw [if_pos ho] at hsp
      have HS := Lib.hid hsp
      have HO := Lib.hid ho
      clear hsp hoe ho
      go_enter Tryz.func35, Tryz.ntmps35
      go_wp2_with fail
      refine (r1 _).mono ?_
      rintro e w1 ⟨hp, G⟩
      clear r1
      rcases hp with ⟨x2, r', h2, rfl⟩ | ⟨e1, h2, _⟩
      rotate_left
      · have := H1.out; rw [h2] at this; cases this
      obtain ⟨rfl, rfl⟩ : x2 = x ∧ r' = r := by
        have := H1.out
        rw [h2] at this
        cases this; exact ⟨rfl, rfl⟩
      clear h2
      generalize hX : tx x2 = X at cl
      have HX := Lib.hid hX
      clear hX
      go_wp2_with fail
      refine (r3 _).mono ?_
      rintro e w2 ⟨v, rfl, V, G2, VN⟩
      rw [HO.out]
      have HVN := Lib.hid (fun b h => Nat.le_trans G.size (VN b h))
      clear VN
      replace G := G.trans (G2.mono G.size)
      clear r3 G2
      obtain ⟨base, cap, rfl, hcap, hcl⟩ := V.is
      have HV := Lib.hid V
      clear hcap hcl V
      go_wp2_with fail
      refine (cl _).mono ?_
      rintro e w3 ⟨rfl, G3⟩
      have V3 := HV.out.below G3
      replace G := G.trans (G3.mono G.size)
      clear cl G3 HV
      go_wp2
      refine bodyPost_ret (results_tmp4 Tryz.results35 _ _ _) rfl ?_
      exact ⟨_, by rw [HS.out]; simp only; rw [HO.out, HX.out]; rfl, by rw [HS.out]; exact V3, G, HVN.out⟩
    · have e2 := hoe ho
      rw [if_neg ho] at hsp
      have HS := Lib.hid (show H = ⟨O.err, [], [], 0⟩ by rw [hsp, e2])
      have g : (O.err != 0) = true := by rw [bne_iff_ne]; exact ho
      clear hsp hoe ho e2 cl
      go_enter Tryz.func35, Tryz.ntmps35
      go_wp2_with fail
      refine (r1 _).mono ?_
      rintro e w1 ⟨hp, G⟩
      clear r1
      rcases hp with ⟨x2, r', h2, rfl⟩ | ⟨e1, h2, _⟩
      rotate_left
      · have := H1.out; rw [h2] at this; cases this
      obtain ⟨rfl, rfl⟩ : x2 = x ∧ r' = r := by
        have := H1.out
        rw [h2] at this
        cases this; exact ⟨rfl, rfl⟩
      clear h2
      generalize tx x2 = X
      go_wp2_with fail
      refine (r3 _).mono ?_
      rintro e w2 ⟨v, rfl, V, G2, _⟩
      replace G := G.trans (G2.mono G.size)
      clear r3 G2 V
      go_wp2
      refine bodyPost_ret (results_tmp4 Tryz.results35 _ _ _) rfl ?_
      exact split_badN HS.out G
set_option maxHeartbeats 1000000 in
theorem split_long (s : ByteArray) (w : World) (hs : s.size ≤ 1099511627776) (hc : 4096 < s.size) :
    Calls Tryz.prog 35 #[.string s] w (SplitPostN (spl (ls s)) w) := by
  have hh : ls (s.extract 0 4096) = (ls s).take 4096 := by
    rw [ls_extract, List.drop_zero]
  have hz : (s.extract 0 4096).size = 4096 := by
    have := congrArg List.length hh
    rw [ls_len, List.length_take, ls_len] at this
    omega
  have hf : decide ((s.extract 0 4096).size = 4096) = decide (4096 ≤ (ls s).length) := by
    rw [hz, ls_len]; exact decide_eq_decide.2 (by omega)
  have r1 : ∀ w, Calls Tryz.prog 54 #[.string (s.extract 0 4096)] w (StPost (decide (4096 ≤ (ls s).length)) ((ls s).take 4096) w) := fun w => by
    rw [← hf, ← hh]; exact startOf_any _ w (by rw [hz]; omega)
  have r2 : ∀ (k : Nat) w, k ≤ (s.extract 0 4096).size → Calls Tryz.prog 55 #[.string (s.extract 0 4096), .int .i64 k] w (FldPost (fldF (decide (4096 ≤ (ls s).length)) (((ls s).take 4096).drop k) k []) w) := fun k w hk => by
    rw [← hf, ← hh]; exact fieldsFrom_any _ k w (by rw [hz]; omega) hk
  rw [hz] at r2
  have hsp := spl_st (ls s)
  generalize hH : spl (ls s) = H at hsp
  have m1 : ¬ (s.size : Int) ≤ 4096 := by omega
  have m2 : (4096 : Int) ≤ (s.size : Int) := by omega
  have hll : (List.take 4096 (ls s)).length = 4096 := by rw [List.length_take, ls_len]; omega
  clear hh hz hf hH
  cases h : stF (decide (4096 ≤ (ls s).length)) ((ls s).take 4096) with
  | error e0 =>
    rw [h] at hsp
    have HS := Lib.hid hsp
    have hne := stF_ne h
    have g : (e0 != 0) = true := by rw [bne_iff_ne]; omega
    have H1 := Lib.hid h
    clear h hsp hne r2 hll
    go_enter Tryz.func35, Tryz.ntmps35
    go_wp2_with fail
    refine (r1 _).mono ?_
    rintro e w1 ⟨hp, G⟩
    clear r1
    rcases hp with ⟨x, r, h2, _⟩ | ⟨e1, h2, rfl⟩
    · have := H1.out; rw [h2] at this; cases this
    obtain rfl : e1 = e0 := by
      have := H1.out
      rw [h2] at this
      cases this; rfl
    clear h2
    go_wp2
    refine bodyPost_ret (results_tmp4 Tryz.results35 _ _ _) rfl ?_
    exact split_badN HS.out G
  | ok p =>
    obtain ⟨x, r⟩ := p
    rw [h] at hsp
    simp only at hsp
    have hlin := (lineF_ok (stF_ok h)).1
    have hlen := lineF_len (stF_ok h)
    rw [hll] at hlen
    have hdr : (List.take 4096 (ls s)).drop (x.length + 2) = r := by
      rw [hlin, show x ++ 13 :: 10 :: r = (x ++ [13, 10]) ++ r by simp, List.drop_left' (by simp)]
    have r3 := fun w => r2 (x.length + 2) w (by omega)
    rw [hdr] at r3
    generalize hO : fldF (decide (4096 ≤ (ls s).length)) r (x.length + 2) [] = O at r3 hsp
    have hoe : O.err ≠ 0 → O = ⟨O.err, [], 0⟩ := by rw [← hO]; exact fldF_err0 _ _ _ (Nat.le_refl _) _ _
    have H1 := Lib.hid h
    have HL := Lib.hid hlen
    clear h r2 hll hlin hlen hdr hO
    have hxl : x.length + 2 ≤ 4096 := by have := HL.out; omega
    have cl := fun w => clone_any (tx x) w (by rw [tx_size]; omega)
    by_cases ho : O.err = 0
    · rw [if_pos ho] at hsp
      have HS := Lib.hid hsp
      have HO := Lib.hid ho
      clear hsp hoe ho
      go_enter Tryz.func35, Tryz.ntmps35
      go_wp2_with fail
      refine (r1 _).mono ?_
      rintro e w1 ⟨hp, G⟩
      clear r1
      rcases hp with ⟨x2, r', h2, rfl⟩ | ⟨e1, h2, _⟩
      rotate_left
      · have := H1.out; rw [h2] at this; cases this
      obtain ⟨rfl, rfl⟩ : x2 = x ∧ r' = r := by
        have := H1.out
        rw [h2] at this
        cases this; exact ⟨rfl, rfl⟩
      clear h2
      generalize hX : tx x2 = X at cl
      have HX := Lib.hid hX
      clear hX
      go_wp2_with fail
      refine (r3 _).mono ?_
      rintro e w2 ⟨v, rfl, V, G2, VN⟩
      rw [HO.out]
      have HVN := Lib.hid (fun b h => Nat.le_trans G.size (VN b h))
      clear VN
      replace G := G.trans (G2.mono G.size)
      clear r3 G2
      obtain ⟨base, cap, rfl, hcap, hcl⟩ := V.is
      have HV := Lib.hid V
      clear hcap hcl V
      go_wp2_with fail
      refine (cl _).mono ?_
      rintro e w3 ⟨rfl, G3⟩
      have V3 := HV.out.below G3
      replace G := G.trans (G3.mono G.size)
      clear cl G3 HV
      go_wp2
      refine bodyPost_ret (results_tmp4 Tryz.results35 _ _ _) rfl ?_
      exact ⟨_, by rw [HS.out]; simp only; rw [HO.out, HX.out]; rfl, by rw [HS.out]; exact V3, G, HVN.out⟩
    · have e2 := hoe ho
      rw [if_neg ho] at hsp
      have HS := Lib.hid (show H = ⟨O.err, [], [], 0⟩ by rw [hsp, e2])
      have g : (O.err != 0) = true := by rw [bne_iff_ne]; exact ho
      clear hsp hoe ho e2 cl
      go_enter Tryz.func35, Tryz.ntmps35
      go_wp2_with fail
      refine (r1 _).mono ?_
      rintro e w1 ⟨hp, G⟩
      clear r1
      rcases hp with ⟨x2, r', h2, rfl⟩ | ⟨e1, h2, _⟩
      rotate_left
      · have := H1.out; rw [h2] at this; cases this
      obtain ⟨rfl, rfl⟩ : x2 = x ∧ r' = r := by
        have := H1.out
        rw [h2] at this
        cases this; exact ⟨rfl, rfl⟩
      clear h2
      generalize tx x2 = X
      go_wp2_with fail
      refine (r3 _).mono ?_
      rintro e w2 ⟨v, rfl, V, G2, _⟩
      replace G := G.trans (G2.mono G.size)
      clear r3 G2 V
      go_wp2
      refine bodyPost_ret (results_tmp4 Tryz.results35 _ _ _) rfl ?_
      exact split_badN HS.out G
theorem split_anyN (s : ByteArray) (w : World) (hs : s.size ≤ 1099511627776) :
    Calls Tryz.prog 35 #[.string s] w (SplitPostN (spl (ls s)) w) := by
  by_cases hc : s.size ≤ 4096
  · exact split_short s w hs hc
  · exact split_long s w hs (by omega)
theorem split_any (s : ByteArray) (w : World) (hs : s.size ≤ 1099511627776) :
    Calls Tryz.prog 35 #[.string s] w (SplitPost (spl (ls s)) w) :=
  (split_anyN s w hs).mono fun _ _ ⟨v, a, b, c, _⟩ => ⟨v, a, b, c⟩
end Go.Proofs.YtdldoklkenhopaaGreatDoor.Fi
end

section
namespace Go.Proofs.YtdldoklkenhopaaGreatDoor.In
open Go.RowKit Go.PlainAid
open Hx Fi Ch
set_option linter.unusedSimpArgs false
set_option linter.unusedVariables false
set_option maxRecDepth 20000

/-- whether s begins with p -/
def pre (s p : ByteArray) : Bool := decide (p.size ≤ s.size) && ((s.extract 0 p.size).toList == p.toList)
/-- what stands behind it, or all -/
def cut (s p : ByteArray) : ByteArray := if pre s p = true then s.extract p.size s.size else s

theorem has_any (s p : ByteArray) (w : World) (hs : s.size ≤ 1099511627776) (hp : p.size ≤ 1099511627776) :
    Calls Tryz.prog 85 #[.string s, .string p] w fun e w' => e = .returned (.bool (pre s p)) ∧ w = w' := by
  by_cases h : p.size ≤ s.size
  · have h1 : (p.size : Int) ≤ (s.size : Int) := by omega
    have e : pre s p = ((s.extract 0 p.size).toList == p.toList) := by unfold pre; simp [h]
    rw [e]
    clear e
    go_enter Tryz.func85, Tryz.ntmps85
    go_wp2
    go_ret
    exact ⟨rfl, rfl⟩
  · have h1 : ¬ (p.size : Int) ≤ (s.size : Int) := by omega
    have e : pre s p = false := by unfold pre; simp [h]
    rw [e]
    clear e
    go_enter Tryz.func85, Tryz.ntmps85
    go_wp2
    go_ret
    exact ⟨rfl, rfl⟩
theorem pre_le {s p : ByteArray} (h : pre s p = true) : p.size ≤ s.size := by
  unfold pre at h
  simp at h
  exact h.1
theorem lite_any (s p : ByteArray) (w : World) (hs : s.size ≤ 1099511627776) (hp : p.size ≤ 1099511627776) :
    Calls Tryz.prog 67 #[.string s, .string p] w fun e w' => e = .returned (.tuple #[.string (cut s p), .bool (pre s p)]) ∧ w = w' := by
  cases c : pre s p with
  | true =>
    have h1 : (p.size : Int) ≤ (s.size : Int) := by have := pre_le c; omega
    have e : cut s p = s.extract p.size s.size := by unfold cut; rw [if_pos c]
    rw [e]
    clear e
    have C := Lib.hid c
    clear c
    go_enter Tryz.func67, Tryz.ntmps67
    go_wp2_with fail
    refine (has_any s p w hs hp).mono ?_
    rintro e w' ⟨rfl, rfl⟩
    rw [C.out]
    go_wp2
    go_ret2
    exact ⟨rfl, rfl⟩
  | false =>
    have e : cut s p = s := by unfold cut; rw [if_neg (by simp [c])]
    rw [e]
    clear e
    have C := Lib.hid c
    clear c
    go_enter Tryz.func67, Tryz.ntmps67
    go_wp2_with fail
    refine (has_any s p w hs hp).mono ?_
    rintro e w' ⟨rfl, rfl⟩
    rw [C.out]
    go_wp2
    go_ret2
    exact ⟨rfl, rfl⟩
theorem cut_any (s p : ByteArray) (w : World) (hs : s.size ≤ 1099511627776) (hp : p.size ≤ 1099511627776) :
    Calls Tryz.prog 47 #[.string s, .string p] w fun e w' => e = .returned (.tuple #[.string (cut s p), .bool (pre s p)]) ∧ w = w' := by
  go_enter Tryz.func47, Tryz.ntmps47
  go_wp2_with fail
  refine (lite_any s p w hs hp).mono ?_
  rintro e w' ⟨rfl, rfl⟩
  go_wp2
  go_ret2
  exact ⟨rfl, rfl⟩


/-! ### the two digits of a version -/
def pHT : ByteArray := ⟨#[72, 84, 84, 80, 47]⟩
theorem pre_ht (s : ByteArray) : pre s pHT = true ↔ (ls s).take 5 = [72, 84, 84, 80, 47] := by
  unfold pre
  have e : pHT.size = 5 := rfl
  have e2 : pHT.toList = [72, 84, 84, 80, 47] := by rw [ls_toList]; rfl
  rw [e, e2]
  simp only [Bool.and_eq_true, decide_eq_true_eq, beq_iff_eq, ls_toList, ls_extract, List.drop_zero, Nat.sub_zero]
  constructor
  · exact fun h => h.2
  · intro h
    refine ⟨?_, h⟩
    have := congrArg List.length h
    rw [List.length_take, ls_len] at this
    simp at this
    omega
/-- of what stands behind HTTP/ -/
def vrF (d : List UInt8) : Option (UInt8 × UInt8) :=
  if d.length = 3 ∧ (48 ≤ d.getD 0 0 ∧ d.getD 0 0 ≤ 57) ∧ d.getD 1 0 = 46 ∧ 48 ≤ d.getD 2 0 ∧ d.getD 2 0 ≤ 57 then some (d.getD 0 0, d.getD 2 0) else none
theorem verF_pre {l : List UInt8} (h : l.take 5 = [72, 84, 84, 80, 47]) : verF l = vrF (l.drop 5) := by
  obtain ⟨d, rfl⟩ : ∃ d, l = [72, 84, 84, 80, 47] ++ d := ⟨l.drop 5, by rw [← h, List.take_append_drop]⟩
  have e : ([72, 84, 84, 80, 47] ++ d).drop 5 = d := by simp
  rw [e]
  unfold verF vrF
  simp only [List.length_append, List.length_cons, List.length_nil, List.cons_append, List.nil_append, List.getD_cons_succ, h]
  by_cases c : d.length = 3
  · have c2 : 0 + 1 + 1 + 1 + 1 + 1 + d.length = 8 := by omega
    simp only [c, c2, true_and]
    congr 1
    exact propext ⟨fun ⟨_, a, b, x⟩ => ⟨b, a, x⟩, fun ⟨a, b, x⟩ => ⟨by simp, b, a, x⟩⟩
  · rw [if_neg (fun x => c (by omega)), if_neg (fun x => c x.1)]
theorem verF_not {l : List UInt8} (h : ¬ l.take 5 = [72, 84, 84, 80, 47]) : verF l = none := by
  unfold verF
  rw [if_neg fun x => h x.2.1]
end Go.Proofs.YtdldoklkenhopaaGreatDoor.In
end
