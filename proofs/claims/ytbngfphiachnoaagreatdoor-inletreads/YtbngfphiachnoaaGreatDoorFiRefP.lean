/-
  Contract of Parse of the document's answers.
-/
import Derived.Test.YtbngfphiachnoaaGreatDoorFiRefT
import Derived.Test.YtbngfphiachnoaaGreatDoorSet2
namespace Go.Proofs.YtbngfphiachnoaaGreatDoor.Fi
open Go.RowKit Go.PlainAid
open Hx
set_option linter.unusedVariables false
set_option maxRecDepth 20000
set_option linter.unusedSimpArgs false

theorem wpo_store {P : Program} {oi : Oper} {a : Act} {w w' : World} {K : Act → World → Prop} {Q : Exit → Act → World → Prop} {ty : TypeId} {x y : Operand} {B off : Nat} {cs : Array Value} (hl : Stores P w ty B off cs w') (hop : oi.op = .store ty x y) (hd : oi.dst = none) (hx : a.eval x = .pointer (some ⟨B, off, none⟩)) (hy : a.eval y = .agg cs) (h : K a w') : oi.wp P a w K Q := by
  unfold Oper.wp execOp
  simp only [hop, hx, hy, Instr.storeAt, Instr.sureAddr, Sem.run_bind, Sem.run_pure, Result.andThen_ok, show (storeVar ty ⟨B, off, none⟩ (.agg cs)).run P w = .ok () w' from hl]
  have e : (a.put oi.dst undef) = a := by rw [hd]; rfl
  show K (a.put oi.dst undef) w'
  rw [e]; exact h
theorem cut_ex {s : ByteArray} {x y : List UInt8} (h : cutB 58 (ls s) = some (x, y)) : ls (s.extract 0 x.length) = x ∧ ls (s.extract (x.length + 1) s.size) = y ∧ x.length < s.size := by
  have e := (cutB_some h).1
  have l := congrArg List.length e
  rw [ls_len] at l
  simp at l
  refine ⟨?_, ?_, by omega⟩
  · rw [ls_extract, List.drop_zero, Nat.sub_zero, e]; simp
  · rw [ls_extract, e, show x ++ 58 :: y = (x ++ [58]) ++ y by simp, List.drop_left' (by simp)]
    exact List.take_of_length_le (by omega)
set_option maxHeartbeats 1000000 in
theorem refParse_any (s : ByteArray) (w : World) (hs : s.size ≤ 1099511627776) :
    Calls Tryz.prog 54 #[.string s] w (ParsePost (ls s) w) := by
  have A0 := At.new w 49 zFd
  have F0 : Below w.heap.size w (w.alloc (.cells zFd 49)) := (Below.refl _ _).alloc (Nat.le_refl _) _
  cases hc : cutB 58 (ls s) with
  | none =>
    have P := Lib.hid (p_none (parseF_cut_none hc))
    have fd : ∀ w, Calls Tryz.prog 38 #[.string s, .int .u8 58] w fun e w' => e = .returned (.int .i64 (-1)) ∧ w = w' := fun w => by
      have := refFind_any s 58 w (by omega)
      rw [find_no hc] at this
      exact this
    clear hc
    go_enter Tryz.func54, Tryz.ntmps54
    go_upto_region 1 with (fail)
    unfold zFd at A0 F0
    generalize w.alloc (.cells #[.string ⟨#[]⟩, .string ⟨#[]⟩] 49) = w0 at A0 F0 ⊢
    go_wp2_with fail
    refine (fd _).mono ?_
    rintro e w1 ⟨rfl, rfl⟩
    clear fd
    have S2 := fd_stores (g := Fd.zero) (f := Fd.zero) A0
    have A2 := At.row A0 (fdV Fd.zero)
    have F2 : Below w.heap.size w (w0.setRow w.heap.size (fdV Fd.zero)) := below_row F0 (Nat.le_refl _)
    clear A0 F0
    generalize w0.setRow w.heap.size (fdV Fd.zero) = w2 at S2 A2 F2
    go_wp2_with (refine wpl_store S2 rfl rfl rfl rfl rfl ?_)
    exact bodyPost_ret (results_cell_tmp Tryz.results54 _ rfl rfl (fd_loads A2)) rfl ⟨by rw [P.out.1, P.out.2]; rfl, F2⟩
  | some p =>
    obtain ⟨x, y⟩ := p
    obtain ⟨ex, ey, hk⟩ := cut_ex hc
    obtain ⟨k, hkx⟩ : ∃ k, k = x.length := ⟨_, rfl⟩
    rw [← hkx] at ex ey hk
    have fd : ∀ w, Calls Tryz.prog 38 #[.string s, .int .u8 58] w fun e w' => e = .returned (.int .i64 (k : Int)) ∧ w = w' := fun w => by
      have := refFind_any s 58 w (by omega)
      rw [find_yes hc, ← hkx] at this
      exact this
    have k0 : (0 : Int) ≤ (k : Int) := Int.natCast_nonneg _
    have k1 : (k : Int) ≤ (s.size : Int) := by omega
    have k2 : (k : Int) + 1 ≤ (s.size : Int) := by omega
    have g0 : ¬ (k : Int) < 0 := by omega
    have tok := fun w => refIsToken_any (s.extract 0 k) w (by rw [ByteArray.size_extract]; omega)
    have txt := fun w => refText_any (s.extract (k + 1) s.size) w (by rw [ByteArray.size_extract]; omega)
    rw [ex] at tok
    rw [ey] at txt
    cases h1 : isTok x with
    | false =>
      have P := Lib.hid (p_none (parseF_cut_bad hc (by rw [h1]; simp)))
      rw [h1] at tok
      clear hc h1 txt ex ey hkx
      go_enter Tryz.func54, Tryz.ntmps54
      go_upto_region 1 with (fail)
      unfold zFd at A0 F0
      generalize w.alloc (.cells #[.string ⟨#[]⟩, .string ⟨#[]⟩] 49) = w0 at A0 F0 ⊢
      go_wp2_with fail
      refine (fd _).mono ?_
      rintro e w1 ⟨rfl, rfl⟩
      clear fd
      go_wp2_with fail
      refine (tok _).mono ?_
      rintro e w' ⟨rfl, rfl⟩
      clear tok
      have S2 := fd_stores (g := Fd.zero) (f := Fd.zero) A0
      have A2 := At.row A0 (fdV Fd.zero)
      have F2 : Below w.heap.size w (w0.setRow w.heap.size (fdV Fd.zero)) := below_row F0 (Nat.le_refl _)
      clear A0 F0
      generalize w0.setRow w.heap.size (fdV Fd.zero) = w2 at S2 A2 F2
      go_wp2_with (refine wpl_store S2 rfl rfl rfl rfl rfl ?_)
      exact bodyPost_ret (results_cell_tmp Tryz.results54 _ rfl rfl (fd_loads A2)) rfl ⟨by rw [P.out.1, P.out.2]; rfl, F2⟩
    | true =>
      rw [h1] at tok
      cases h2 : isTxt y with
      | false =>
        have P := Lib.hid (p_none (parseF_cut_bad hc (by rw [h2]; simp)))
        rw [h2] at txt
        clear hc h1 h2 ex ey hkx
        go_enter Tryz.func54, Tryz.ntmps54
        go_upto_region 1 with (fail)
        unfold zFd at A0 F0
        generalize w.alloc (.cells #[.string ⟨#[]⟩, .string ⟨#[]⟩] 49) = w0 at A0 F0 ⊢
        go_wp2_with fail
        refine (fd _).mono ?_
        rintro e w1 ⟨rfl, rfl⟩
        clear fd
        go_wp2_with fail
        refine (tok _).mono ?_
        rintro e w' ⟨rfl, rfl⟩
        clear tok
        go_wp2_with fail
        refine (txt _).mono ?_
        rintro e w' ⟨rfl, rfl⟩
        clear txt
        have S2 := fd_stores (g := Fd.zero) (f := Fd.zero) A0
        have A2 := At.row A0 (fdV Fd.zero)
        have F2 : Below w.heap.size w (w0.setRow w.heap.size (fdV Fd.zero)) := below_row F0 (Nat.le_refl _)
        clear A0 F0
        generalize w0.setRow w.heap.size (fdV Fd.zero) = w2 at S2 A2 F2
        go_wp2_with (refine wpl_store S2 rfl rfl rfl rfl rfl ?_)
        exact bodyPost_ret (results_cell_tmp Tryz.results54 _ rfl rfl (fd_loads A2)) rfl ⟨by rw [P.out.1, P.out.2]; rfl, F2⟩
      | true =>
        have P := Lib.hid (p_some (parseF_cut hc h1 h2))
        rw [← ex, tx_ls] at P
        rw [h2] at txt
        have tr := fun w => refTrim_any (s.extract (k + 1) s.size) w (by rw [ByteArray.size_extract]; omega)
        rw [ey] at tr
        generalize tx (trimT y) = T at tr P ⊢
        clear hc h1 h2 ex ey hkx
        go_enter Tryz.func54, Tryz.ntmps54
        go_upto_region 1 with (fail)
        unfold zFd at A0 F0
        generalize w.alloc (.cells #[.string ⟨#[]⟩, .string ⟨#[]⟩] 49) = w0 at A0 F0 ⊢
        go_wp2_with fail
        refine (fd _).mono ?_
        rintro e w1 ⟨rfl, rfl⟩
        clear fd
        go_wp2_with fail
        refine (tok _).mono ?_
        rintro e w' ⟨rfl, rfl⟩
        clear tok
        go_wp2_with fail
        refine (txt _).mono ?_
        rintro e w' ⟨rfl, rfl⟩
        clear txt
        go_upto_region 4 with (fail)
        refine wp_region_held (S := fun z => ∃ f, At z w.heap.size 49 (fdV f)) (by kernel_rfl) ?_
        change wpAnyH _ _ _ _ _ _ _ _ w0.drew
        replace A0 : At w0.drew w.heap.size 49 (fdV Fd.zero) := At.drew A0
        replace F0 := F0.drew
        generalize w0.drew = w4 at A0 F0 ⊢
        have wk : IntKind.i64.wrap ((k : Int) + 1) = (k : Int) + 1 := by rw [IntKind.wrap_i64]; omega
        have j0 : ∃ f, At w4 w.heap.size 49 (fdV f) := ⟨_, A0⟩
        have S2 := fd_stores (g := ⟨s.extract 0 k, T⟩) (f := Fd.zero) A0
        have A2 := At.row A0 (fdV ⟨s.extract 0 k, T⟩)
        have F2 : Below w.heap.size w (w4.setRow w.heap.size (fdV ⟨s.extract 0 k, T⟩)) := below_row F0 (Nat.le_refl _)
        clear A0 F0
        generalize w4.setRow w.heap.size (fdV ⟨s.extract 0 k, T⟩) = w5 at S2 A2 F2
        have j2 : ∃ f, At w5 w.heap.size 49 (fdV f) := ⟨_, A2⟩
        refine held_take 0 (.string s) rfl (by kernel_rfl) (by kernel_rfl) (by kernel_rfl) (fun _ _ _ h => h) (Or.inl ⟨by rfl, fun x j => by go_simp⟩) j0 (fun K hK => ?_)
        go_simp
        refine hK _ _ ?_
        clear hK K
        refine held_take 1 (.int .i64 (k : Int)) rfl (by kernel_rfl) (by kernel_rfl) (by kernel_rfl) (fun _ _ _ h => h) (Or.inl ⟨by rfl, fun x j => by go_simp⟩) j0 (fun K hK => ?_)
        go_simp
        refine hK _ _ ?_
        clear hK K
        refine held_take 2 (.string (s.extract 0 k)) rfl (by kernel_rfl) (by kernel_rfl) (by kernel_rfl) (fun _ _ _ h => h) (Or.inl ⟨by rfl, fun x j => by go_simp⟩) j0 (fun K hK => ?_)
        go_simp
        refine hK _ _ ?_
        clear hK K
        refine held_take 3 (.string s) rfl (by kernel_rfl) (by kernel_rfl) (by kernel_rfl) (fun _ _ _ h => h) (Or.inl ⟨by rfl, fun x j => by go_simp⟩) j0 (fun K hK => ?_)
        go_simp
        refine hK _ _ ?_
        clear hK K
        refine held_take 4 (.int .i64 (k : Int)) rfl (by kernel_rfl) (by kernel_rfl) (by kernel_rfl) (fun _ _ _ h => h) (Or.inl ⟨by rfl, fun x j => by go_simp⟩) j0 (fun K hK => ?_)
        go_simp
        refine hK _ _ ?_
        clear hK K
        refine held_take 5 (.int .i64 ((k : Int) + 1)) rfl (by kernel_rfl) (by kernel_rfl) (by kernel_rfl) (fun _ _ _ h => h) (Or.inl ⟨by rfl, fun x j => by go_simp⟩) j0 (fun K hK => ?_)
        go_simp
        refine hK _ _ ?_
        clear hK K
        refine held_take 6 (.string (s.extract (k + 1) s.size)) rfl (by kernel_rfl) (by kernel_rfl) (by kernel_rfl) (fun _ _ _ h => h) (Or.inl ⟨by rfl, fun x j => by go_simp⟩) j0 (fun K hK => ?_)
        go_simp
        refine hK _ _ ?_
        clear hK K
        refine held_one 7 (by kernel_rfl) (fun K hK => wpOp_in rfl rfl ?_)
        go_simp
        refine (tr _).mono ?_
        rintro e w6 ⟨rfl, rfl⟩
        refine hK _ _ j0 ?_
        clear hK K
        refine held_take 8 (.agg #[.string (s.extract 0 k), .string T]) rfl (by kernel_rfl) (by kernel_rfl) (by kernel_rfl) (fun _ _ _ h => h) (Or.inl ⟨by rfl, fun x j => by go_simp⟩) j0 (fun K hK => ?_)
        go_simp
        refine hK _ _ ?_
        clear hK K
        refine held_one 9 (by kernel_rfl) (fun K hK => wpOp_in rfl rfl ?_)
        refine wpo_store S2 rfl rfl rfl rfl ?_
        refine hK _ _ j2 ?_
        clear hK K
        refine held_take 10 (.int .i64 0) rfl (by kernel_rfl) (by kernel_rfl) (by kernel_rfl) (fun _ _ _ h => h) (Or.inl ⟨by rfl, fun x j => by go_simp⟩) j2 (fun K hK => ?_)
        go_simp
        refine hK _ _ ?_
        clear hK K
        refine wpAnyH_done (by kernel_rfl) ?_ _
        go_wp2
        exact bodyPost_ret (results_cell_tmp Tryz.results54 _ rfl rfl (fd_loads A2)) rfl ⟨by rw [P.out.1, P.out.2]; rfl, F2⟩
end Go.Proofs.YtbngfphiachnoaaGreatDoor.Fi
