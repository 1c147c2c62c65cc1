/-
  Contract of renew: all is known of the log, and safe.
-/
import Derived.Test.YtdmgobffhpgjlaaGreatDgMem
namespace Go.Proofs.YtdmgobffhpgjlaaGreat.Sl.Dg
open Go.RowKit Go.PlainAid Go.Proofs.YtdmgobffhpgjlaaGreat.Cr
open Go.Proofs.YtdmgobffhpgjlaaGreat.Pk (Dk)
set_option linter.unusedVariables false
set_option maxRecDepth 20000
set_option linter.unusedSimpArgs false

set_option maxHeartbeats 2000000 in
theorem renew_any {w0 w : World} {p q : Nat} {D : Dk} {L : Lg} {X : List (Nat × Obj)} (h : HasL w0 w p q D L X) (n b : Int) :
    Calls Tryz.prog 38 #[.pointer (some ⟨q, 0, none⟩), .agg #[.int .i64 n, .int .i64 b]] w fun e w' => e = .returned (.tuple #[]) ∧ HasL w0 w' p q D ⟨n, b, n, false⟩ X := by
  have J := At.new w 80 #[.int .i64 n, .int .i64 b]
  have hne : q ≠ w.heap.size := by have := h.lt; omega
  replace h := h.alloc (.cells #[.int .i64 n, .int .i64 b] 80)
  go_enter Tryz.func38, Tryz.ntmps38
  go_upto_region 1 with (fail)
  generalize w.alloc (.cells #[.int .i64 n, .int .i64 b] 80) = w1 at h J ⊢
  generalize w.heap.size = B at J hne ⊢
  refine wp_region_held (S := fun z => At z B 80 #[.int .i64 n, .int .i64 b]) (by kernel_rfl) ?_
  change wpAnyH _ _ _ _ _ _ _ _ w1.drew
  replace h := h.drew
  replace J := J.drew
  generalize w1.drew = w2 at h J ⊢
  have LH : Hid (∀ z, At z B 80 #[.int .i64 n, .int .i64 b] → Loads Tryz.prog z 80 ⟨B, 0, none⟩ #[.int .i64 n, .int .i64 b]) := Lib.hid fun z j => j.loads (by kernel_rfl) (by kernel_rfl)
  have c1 : w2.cell? ⟨q, 1, none⟩ = some (.int .i64 L.n) := h.at.cell 1
  have f1 := h.at.frozen 1
  have h1 := h.set (L' := ⟨n, L.b, L.s, L.k⟩) 1 (.int .i64 n) rfl
  have c2 : (w2.setCell ⟨q, 1, none⟩ (.int .i64 n)).cell? ⟨q, 2, none⟩ = some (.int .i64 L.b) := h1.at.cell 2
  have f2 : (w2.setCell ⟨q, 1, none⟩ (.int .i64 n)).frozen? ⟨q, 2, none⟩ = false := h1.at.frozen 2
  clear h1
  refine held_take 0 (.pointer (some ⟨q, 0, none⟩)) rfl (by kernel_rfl) (by kernel_rfl) (by kernel_rfl) (fun _ _ _ h => h) (Or.inl ⟨by rfl, fun x j => by go_simp⟩) J (fun K hK => ?_)
  go_simp
  refine hK _ _ ?_
  clear hK K
  refine held_take 1 (.pointer (some ⟨q, 0, none⟩)) rfl (by kernel_rfl) (by kernel_rfl) (by kernel_rfl) (fun _ _ _ h => h) (Or.inl ⟨by rfl, fun x j => by go_simp⟩) J (fun K hK => ?_)
  go_simp
  refine hK _ _ ?_
  clear hK K
  refine held_take 2 (.pointer (some ⟨q, 0, none⟩)) rfl (by kernel_rfl) (by kernel_rfl) (by kernel_rfl) (fun _ _ _ h => h) (Or.inl ⟨by rfl, fun x j => by go_simp⟩) J (fun K hK => ?_)
  go_simp
  refine hK _ _ ?_
  clear hK K
  refine held_take 3 (.agg #[.int .i64 n, .int .i64 b]) rfl (by kernel_rfl) (by kernel_rfl) (by kernel_rfl) (fun _ _ _ h => h) (yields_load LH.out rfl rfl rfl) J (fun K hK => ?_)
  go_simp
  refine hK _ _ ?_
  clear hK K
  refine held_take 4 (.pointer (some ⟨B, 0, none⟩)) rfl (by kernel_rfl) (by kernel_rfl) (by kernel_rfl) (fun _ _ _ h => h) (Or.inl ⟨by rfl, fun x j => by go_simp⟩) J (fun K hK => ?_)
  go_simp
  refine hK _ _ ?_
  clear hK K
  refine held_take 5 (.int .i64 n) rfl (by kernel_rfl) (by kernel_rfl) (by kernel_rfl) (fun _ _ _ h => h) (Or.inl ⟨by rfl, fun x j => by have c0 := j.cell 0; go_simp⟩) J (fun K hK => ?_)
  go_simp
  refine hK _ _ ?_
  clear hK K
  refine held_take 6 (.pointer (some ⟨q, 0, none⟩)) rfl (by kernel_rfl) (by kernel_rfl) (by kernel_rfl) (fun _ _ _ h => h) (Or.inl ⟨by rfl, fun x j => by go_simp⟩) J (fun K hK => ?_)
  go_simp
  refine hK _ _ ?_
  clear hK K
  refine held_take 7 (.pointer (some ⟨q, 1, none⟩)) rfl (by kernel_rfl) (by kernel_rfl) (by kernel_rfl) (fun _ _ _ h => h) (Or.inl ⟨by rfl, fun x j => by go_simp⟩) J (fun K hK => ?_)
  go_simp
  refine hK _ _ ?_
  clear hK K
  refine held_one 8 (by kernel_rfl) (fun K hK => wpOp_in rfl rfl ?_)
  go_simp
  have h3 := (h.set (L' := ⟨n, L.b, L.s, L.k⟩) 1 (.int .i64 n) rfl).set (L' := ⟨n, b, L.s, L.k⟩) 2 (.int .i64 b) rfl
  have J3 := (J.other (a := ⟨q, 1, none⟩) hne.symm (.int .i64 n)).other (a := ⟨q, 2, none⟩) hne.symm (.int .i64 b)
  refine hK _ _ J3 ?_
  generalize (w2.setCell ⟨q, 1, none⟩ (.int .i64 n)).setCell ⟨q, 2, none⟩ (.int .i64 b) = w3 at h3 J3 ⊢
  clear h J c1 f1 c2 f2
  have c3 : w3.cell? ⟨q, 3, none⟩ = some (.int .i64 L.s) := h3.at.cell 3
  have f3 := h3.at.frozen 3
  clear hK K
  refine held_take 9 (.pointer (some ⟨q, 0, none⟩)) rfl (by kernel_rfl) (by kernel_rfl) (by kernel_rfl) (fun _ _ _ h => h) (Or.inl ⟨by rfl, fun x j => by go_simp⟩) J3 (fun K hK => ?_)
  go_simp
  refine hK _ _ ?_
  clear hK K
  refine held_take 10 (.pointer (some ⟨q, 3, none⟩)) rfl (by kernel_rfl) (by kernel_rfl) (by kernel_rfl) (fun _ _ _ h => h) (Or.inl ⟨by rfl, fun x j => by go_simp⟩) J3 (fun K hK => ?_)
  go_simp
  refine hK _ _ ?_
  clear hK K
  refine held_one 11 (by kernel_rfl) (fun K hK => wpOp_in rfl rfl ?_)
  go_simp
  have h4 := h3.set (L' := ⟨n, b, n, L.k⟩) 3 (.int .i64 n) rfl
  have J4 := J3.other (a := ⟨q, 3, none⟩) hne.symm (.int .i64 n)
  refine hK _ _ J4 ?_
  generalize w3.setCell ⟨q, 3, none⟩ (.int .i64 n) = w4 at h4 J4 ⊢
  clear h3 J3 c3 f3
  have c4 : w4.cell? ⟨q, 4, none⟩ = some (.bool L.k) := h4.at.cell 4
  have f4 := h4.at.frozen 4
  clear hK K
  refine held_take 12 (.pointer (some ⟨q, 0, none⟩)) rfl (by kernel_rfl) (by kernel_rfl) (by kernel_rfl) (fun _ _ _ h => h) (Or.inl ⟨by rfl, fun x j => by go_simp⟩) J4 (fun K hK => ?_)
  go_simp
  refine hK _ _ ?_
  clear hK K
  refine held_take 13 (.pointer (some ⟨q, 4, none⟩)) rfl (by kernel_rfl) (by kernel_rfl) (by kernel_rfl) (fun _ _ _ h => h) (Or.inl ⟨by rfl, fun x j => by go_simp⟩) J4 (fun K hK => ?_)
  go_simp
  refine hK _ _ ?_
  clear hK K
  refine held_one 14 (by kernel_rfl) (fun K hK => wpOp_in rfl rfl ?_)
  go_simp
  have h5 := h4.set (L' := ⟨n, b, n, false⟩) 4 (.bool false) rfl
  refine hK _ _ (J4.other (a := ⟨q, 4, none⟩) hne.symm (.bool false)) ?_
  generalize w4.setCell ⟨q, 4, none⟩ (.bool false) = w5 at h5 ⊢
  clear h4 J4 c4 f4
  clear hK K
  refine wpAnyH_done (by kernel_rfl) ?_ _
  go_wp2
  go_end0
  exact ⟨rfl, h5⟩
end Go.Proofs.YtdmgobffhpgjlaaGreat.Sl.Dg
