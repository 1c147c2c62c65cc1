/-
  Contracts of the methods by which a body in chunks is read: data, its end, a line, its number, a field.
-/
import Derived.Test.YtdldoklkenhopaaGreatDoorChMem
import Derived.Test.YtdldoklkenhopaaGreatDoorChStr
import Derived.Test.YtdldoklkenhopaaGreatDoorChSize
namespace Go.Proofs.YtdldoklkenhopaaGreatDoor.Ch
open Go.RowKit Go.PlainAid
open Hx Fi
set_option linter.unusedVariables false
set_option maxRecDepth 20000
set_option linter.unusedSimpArgs false

set_option maxHeartbeats 4000000 in
theorem gather_wait {w : World} {p : Nat} {x y z : Value} {Z : Nat → Prop} {most n due : Int} {part data : List UInt8} {fs : Int} {rest : List UInt8} {wr nx : Int} (H : ChAt w p x y z Z ⟨nx, most, n, due, part, data, fs, rest, wr⟩) (s : ByteArray) (hs : s.size ≤ 549755813888) (h0 : 0 < s.size) (hr : part.length + s.size < 256) (h10 : (10 : UInt8) ∉ ls s) :
    Calls Tryz.prog 63 #[.pointer (some ⟨p, 0, none⟩), .string s] w fun e w' => e = .returned (.tuple #[.string ⟨#[]⟩, .string ⟨#[]⟩, .int .i64 17]) ∧ Post w w' p Z ⟨nx, most, n, due, part ++ ls s, data, fs, rest, wr⟩ := by
  obtain ⟨ox, kx, ex, hx1, hx2⟩ := H.px.form
  simp only at ex hx1
  obtain ⟨m, hm⟩ : ∃ m, m = part.length := ⟨_, rfl⟩
  rw [← hm] at ex hx1
  subst ex
  have i9 : ((m : Int) ≤ 256) := by omega
  have lt : (s.size : Int) < 256 - (m : Int) := by omega
  have S0 : ls s = ls s := rfl
  have ib : ∀ w, Calls Tryz.prog 68 #[.string s, .int .u8 10] w fun e w' => e = .returned (.int .i64 (-1)) ∧ w = w' := fun w => by
    have ih := indexByte_any s 10 w
    rw [show ((10 : Int)).toNat.toUInt8 = 10 from rfl] at ih
    rcases idx_cases s 10 with ⟨e, _⟩ | ⟨i, _, _, e⟩
    · rw [e] at ih; exact ih
    · rw [S0, cutB_none.2 h10] at e; cases e
  have HM := Lib.hid hm
  have HR0 := Lib.hid hr
  clear hm hr
  clear h10 S0
  have d4 := H.c4
  go_enter Tryz.func63, Tryz.ntmps63
  go_wp2_with fail
  refine (ib _).mono ?_
  rintro e w' ⟨rfl, rfl⟩
  clear ib
  go_upto_region 6 with (fail)
  clear d4
  have H0 := H.drew
  have B0 : Goes w w.drew Z Z := Goes.of_below ((Below.refl _ _).drew) Z
  have d4 := H0.c4
  refine wp_region_any (by kernel_rfl) ?_
  change wpAny _ _ _ _ _ _ _ w.drew
  refine any_take 0 (.pointer (some ⟨p, 0, none⟩)) rfl (by kernel_rfl) (by kernel_rfl) (by kernel_rfl) (fun _ _ _ h => h) (Or.inl ⟨by rfl, fun x => by go_simp⟩) (fun K hK => ?_)
  go_simp
  refine hK _ _ ?_
  clear hK K
  refine any_take 1 (.pointer (some ⟨p, 0, none⟩)) rfl (by kernel_rfl) (by kernel_rfl) (by kernel_rfl) (fun _ _ _ h => h) (Or.inl ⟨by rfl, fun x => by go_simp⟩) (fun K hK => ?_)
  go_simp
  refine hK _ _ ?_
  clear hK K
  refine any_take 2 (.pointer (some ⟨p, 0, none⟩)) rfl (by kernel_rfl) (by kernel_rfl) (by kernel_rfl) (fun _ _ _ h => h) (Or.inl ⟨by rfl, fun x => by go_simp⟩) (fun K hK => ?_)
  go_simp
  refine hK _ _ ?_
  clear hK K
  refine any_take 3 (.pointer (some ⟨p, 4, none⟩)) rfl (by kernel_rfl) (by kernel_rfl) (by kernel_rfl) (fun _ _ _ h => h) (Or.inl ⟨by rfl, fun x => by go_simp⟩) (fun K hK => ?_)
  go_simp
  refine hK _ _ ?_
  clear hK K
  refine any_take 5 (.string s) rfl (by kernel_rfl) (by kernel_rfl) (by kernel_rfl) (fun _ _ _ h => h) (Or.inl ⟨by rfl, fun x => by go_simp⟩) (fun K hK => ?_)
  go_simp
  refine hK _ _ ?_
  clear hK K
  refine any_take 6 (.int .i64 (s.size : Int)) rfl (by kernel_rfl) (by kernel_rfl) (by kernel_rfl) (fun _ _ _ h => h) (Or.inl ⟨by rfl, fun x => by go_simp⟩) (fun K hK => ?_)
  go_simp
  refine hK _ _ ?_
  clear hK K
  refine any_take 7 (.string s) rfl (by kernel_rfl) (by kernel_rfl) (by kernel_rfl) (fun _ _ _ h => h) (Or.inl ⟨by rfl, fun x => by go_simp⟩) (fun K hK => ?_)
  go_simp
  refine hK _ _ ?_
  clear hK K
  refine any_one 4 (by kernel_rfl) (fun K hK => wpOp_in rfl rfl ?_)
  go_simp
  refine hK _ _ ?_
  clear hK K
  refine any_one 8 (by kernel_rfl) (fun K hK => wpOp_in rfl rfl ?_)
  refine wp_app H0.px (s := s) (by simp only; have := HR0.out; omega) _ _ rfl rfl rfl ?_
  intro o4 m4 k4 w4 r4 g4 l4
  have hp4 := H0.st.same (g4.block p H0.st.lt fun e => row_ne H0.px H0.st e.symm rfl)
  have d4 := hp4.cell 4
  have q4 := hp4.frozen 4
  obtain ⟨H1, G1⟩ := H0.rowX g4 r4 l4
  clear hp4 r4 g4 l4
  refine hK _ _ ?_
  clear hK K
  refine any_take 9 (.pointer (some ⟨p, 0, none⟩)) rfl (by kernel_rfl) (by kernel_rfl) (by kernel_rfl) (fun _ _ _ h => h) (Or.inl ⟨by rfl, fun x => by go_simp⟩) (fun K hK => ?_)
  go_simp
  refine hK _ _ ?_
  clear hK K
  refine any_take 10 (.pointer (some ⟨p, 4, none⟩)) rfl (by kernel_rfl) (by kernel_rfl) (by kernel_rfl) (fun _ _ _ h => h) (Or.inl ⟨by rfl, fun x => by go_simp⟩) (fun K hK => ?_)
  go_simp
  refine hK _ _ ?_
  clear hK K
  refine any_one 11 (by kernel_rfl) (fun K hK => wpOp_in rfl rfl ?_)
  go_simp
  refine hK _ _ ?_
  clear hK K
  refine wpAny_done (by kernel_rfl) ?_ _
  generalize w4.setCell ⟨p, 4, none⟩ (.slice o4 m4 k4) = w5 at *
  generalize Zn Z (.slice o4 m4 k4) = Z1 at *
  have GA := B0.trans G1
  clear G1 B0 H0
  have H1b : ChAt w5 p (.slice o4 m4 k4) y z Z1 ⟨nx, most, n, due, part ++ ls s, data, fs, rest, wr⟩ := by exact H1
  clear H1
  have e4 := H1b.px.len
  simp only at e4
  have hr := HR0.out
  simp only [List.length_append, List.length_take, ls_len] at e4
  have g4 : ((m4 : Int) == 256) = false := by rw [beq_eq_false_iff_ne]; omega
  have d4 := H1b.c4
  clear e4 hr
  go_wp2
  go_ret3
  exact ⟨rfl, _, ⟨_, _, _, H1b⟩, GA⟩
set_option maxHeartbeats 4000000 in
theorem gather_long {w : World} {p : Nat} {x y z : Value} {Z : Nat → Prop} {most n due : Int} {part data : List UInt8} {fs : Int} {rest : List UInt8} {wr nx : Int} (H : ChAt w p x y z Z ⟨nx, most, n, due, part, data, fs, rest, wr⟩) (s : ByteArray) (hs : s.size ≤ 549755813888) (h0 : 0 < s.size) (hr : 256 ≤ part.length + s.size) (h10 : (10 : UInt8) ∉ (ls s).take (256 - part.length)) (hp : part.length ≤ 255) :
    Calls Tryz.prog 63 #[.pointer (some ⟨p, 0, none⟩), .string s] w fun e w' => e = .returned (.tuple #[.string ⟨#[]⟩, .string ⟨#[]⟩, .int .i64 3]) ∧ Post w w' p Z ⟨nx, most, n, due, part ++ (ls s).take (256 - part.length), data, fs, rest, wr⟩ := by
  obtain ⟨ox, kx, ex, hx1, hx2⟩ := H.px.form
  simp only at ex hx1
  obtain ⟨m, hm⟩ : ∃ m, m = part.length := ⟨_, rfl⟩
  rw [← hm] at ex hx1
  subst ex
  have i9 : ((m : Int) ≤ 256) := by omega
  obtain ⟨R, hR⟩ : ∃ R : Nat, R = 256 - part.length := ⟨_, rfl⟩
  have em : 256 - (m : Int) = (R : Int) := by omega
  have nlt : ¬ (s.size : Int) < (R : Int) := by omega
  have i8 : (R : Int) ≤ (s.size : Int) := by omega
  have S0 : ls (s.extract 0 R) = (ls s).take R := by rw [ls_extract]; simp
  rw [← hR] at h10 ⊢
  have ib : ∀ w, Calls Tryz.prog 68 #[.string (s.extract 0 R), .int .u8 10] w fun e w' => e = .returned (.int .i64 (-1)) ∧ w = w' := fun w => by
    have ih := indexByte_any (s.extract 0 R) 10 w
    rw [show ((10 : Int)).toNat.toUInt8 = 10 from rfl] at ih
    rcases idx_cases (s.extract 0 R) 10 with ⟨e, _⟩ | ⟨i, _, _, e⟩
    · rw [e] at ih; exact ih
    · rw [S0, cutB_none.2 h10] at e; cases e
  have ez : (s.extract 0 R).size = R := by rw [ByteArray.size_extract]; omega
  have EZ := Lib.hid ez
  clear ez
  have HM := Lib.hid hm
  have HR0 := Lib.hid hr
  clear hm hr
  clear h10 S0
  have HR := Lib.hid hR
  clear hR
  have d4 := H.c4
  go_enter Tryz.func63, Tryz.ntmps63
  go_wp2_with fail
  refine (ib _).mono ?_
  rintro e w' ⟨rfl, rfl⟩
  clear ib
  go_upto_region 6 with (fail)
  clear d4
  have H0 := H.drew
  have B0 : Goes w w.drew Z Z := Goes.of_below ((Below.refl _ _).drew) Z
  have d4 := H0.c4
  refine wp_region_any (by kernel_rfl) ?_
  change wpAny _ _ _ _ _ _ _ w.drew
  refine any_take 0 (.pointer (some ⟨p, 0, none⟩)) rfl (by kernel_rfl) (by kernel_rfl) (by kernel_rfl) (fun _ _ _ h => h) (Or.inl ⟨by rfl, fun x => by go_simp⟩) (fun K hK => ?_)
  go_simp
  refine hK _ _ ?_
  clear hK K
  refine any_take 1 (.pointer (some ⟨p, 0, none⟩)) rfl (by kernel_rfl) (by kernel_rfl) (by kernel_rfl) (fun _ _ _ h => h) (Or.inl ⟨by rfl, fun x => by go_simp⟩) (fun K hK => ?_)
  go_simp
  refine hK _ _ ?_
  clear hK K
  refine any_take 2 (.pointer (some ⟨p, 0, none⟩)) rfl (by kernel_rfl) (by kernel_rfl) (by kernel_rfl) (fun _ _ _ h => h) (Or.inl ⟨by rfl, fun x => by go_simp⟩) (fun K hK => ?_)
  go_simp
  refine hK _ _ ?_
  clear hK K
  refine any_take 3 (.pointer (some ⟨p, 4, none⟩)) rfl (by kernel_rfl) (by kernel_rfl) (by kernel_rfl) (fun _ _ _ h => h) (Or.inl ⟨by rfl, fun x => by go_simp⟩) (fun K hK => ?_)
  go_simp
  refine hK _ _ ?_
  clear hK K
  refine any_take 5 (.string s) rfl (by kernel_rfl) (by kernel_rfl) (by kernel_rfl) (fun _ _ _ h => h) (Or.inl ⟨by rfl, fun x => by go_simp⟩) (fun K hK => ?_)
  go_simp
  refine hK _ _ ?_
  clear hK K
  refine any_take 6 (.int .i64 (R : Int)) rfl (by kernel_rfl) (by kernel_rfl) (by kernel_rfl) (fun _ _ _ h => h) (Or.inl ⟨by rfl, fun x => by go_simp⟩) (fun K hK => ?_)
  go_simp
  refine hK _ _ ?_
  clear hK K
  refine any_take 7 (.string (s.extract 0 R)) rfl (by kernel_rfl) (by kernel_rfl) (by kernel_rfl) (fun _ _ _ h => h) (Or.inl ⟨by rfl, fun x => by go_simp⟩) (fun K hK => ?_)
  go_simp
  refine hK _ _ ?_
  clear hK K
  refine any_one 4 (by kernel_rfl) (fun K hK => wpOp_in rfl rfl ?_)
  go_simp
  refine hK _ _ ?_
  clear hK K
  refine any_one 8 (by kernel_rfl) (fun K hK => wpOp_in rfl rfl ?_)
  refine wp_app H0.px (s := s.extract 0 R) (by simp only; rw [EZ.out]; omega) _ _ rfl rfl rfl ?_
  intro o4 m4 k4 w4 r4 g4 l4
  have hp4 := H0.st.same (g4.block p H0.st.lt fun e => row_ne H0.px H0.st e.symm rfl)
  have d4 := hp4.cell 4
  have q4 := hp4.frozen 4
  obtain ⟨H1, G1⟩ := H0.rowX g4 r4 l4
  clear hp4 r4 g4 l4
  refine hK _ _ ?_
  clear hK K
  refine any_take 9 (.pointer (some ⟨p, 0, none⟩)) rfl (by kernel_rfl) (by kernel_rfl) (by kernel_rfl) (fun _ _ _ h => h) (Or.inl ⟨by rfl, fun x => by go_simp⟩) (fun K hK => ?_)
  go_simp
  refine hK _ _ ?_
  clear hK K
  refine any_take 10 (.pointer (some ⟨p, 4, none⟩)) rfl (by kernel_rfl) (by kernel_rfl) (by kernel_rfl) (fun _ _ _ h => h) (Or.inl ⟨by rfl, fun x => by go_simp⟩) (fun K hK => ?_)
  go_simp
  refine hK _ _ ?_
  clear hK K
  refine any_one 11 (by kernel_rfl) (fun K hK => wpOp_in rfl rfl ?_)
  go_simp
  refine hK _ _ ?_
  clear hK K
  refine wpAny_done (by kernel_rfl) ?_ _
  generalize w4.setCell ⟨p, 4, none⟩ (.slice o4 m4 k4) = w5 at *
  generalize Zn Z (.slice o4 m4 k4) = Z1 at *
  have GA := B0.trans G1
  clear G1 B0 H0
  have H1b : ChAt w5 p (.slice o4 m4 k4) y z Z1 ⟨nx, most, n, due, part ++ (ls s).take R, data, fs, rest, wr⟩ := by have h := H1; rw [show ls (s.extract 0 R) = (ls s).take R by rw [ls_extract]; simp] at h; exact h
  clear H1
  have e4 := H1b.px.len
  simp only at e4
  have hr := HR0.out
  have hR := HR.out
  simp only [List.length_append, List.length_take, ls_len] at e4
  have g4 : ((m4 : Int) == 256) = true := by rw [beq_iff_eq]; omega
  have d4 := H1b.c4
  clear e4 hr hR
  go_wp2
  go_ret3
  exact ⟨rfl, _, ⟨_, _, _, H1b⟩, GA⟩
set_option maxHeartbeats 4000000 in
theorem gather_badA {w : World} {p : Nat} {x y z : Value} {Z : Nat → Prop} {most n due : Int} {part data : List UInt8} {fs : Int} {rest : List UInt8} {wr nx : Int} (H : ChAt w p x y z Z ⟨nx, most, n, due, part, data, fs, rest, wr⟩) (s : ByteArray) (hs : s.size ≤ 549755813888) (h0 : 0 < s.size) (hr : part.length + s.size < 256) {l r : List UInt8} (hs2 : ls s = l ++ 10 :: r) (h10 : (10 : UInt8) ∉ l) (hl : part.length + l.length ≤ 255) (h13 : (part ++ l).getLast? ≠ some 13) :
    Calls Tryz.prog 63 #[.pointer (some ⟨p, 0, none⟩), .string s] w fun e w' => e = .returned (.tuple #[.string ⟨#[]⟩, .string ⟨#[]⟩, .int .i64 3]) ∧ Post w w' p Z ⟨nx, most, n, due, [], data, fs, rest, wr⟩ := by
  obtain ⟨ox, kx, ex, hx1, hx2⟩ := H.px.form
  simp only at ex hx1
  obtain ⟨m, hm⟩ : ∃ m, m = part.length := ⟨_, rfl⟩
  rw [← hm] at ex hx1
  subst ex
  have i9 : ((m : Int) ≤ 256) := by omega
  have lt : (s.size : Int) < 256 - (m : Int) := by omega
  have S0 : ls s = ls s := rfl
  have hz : s.size = l.length + 1 + r.length := by rw [← ls_len, hs2]; simp; omega
  have hq : ∃ r2, ls s = l ++ 10 :: r2 := ⟨r, hs2⟩
  obtain ⟨r2, hr2⟩ := hq
  have ib : ∀ w, Calls Tryz.prog 68 #[.string s, .int .u8 10] w fun e w' => e = .returned (.int .i64 (l.length)) ∧ w = w' := fun w => by
    have ih := indexByte_any s 10 w
    rw [show ((10 : Int)).toNat.toUInt8 = 10 from rfl] at ih
    rcases idx_cases s 10 with ⟨_, e⟩ | ⟨i, e1, e3, e4⟩
    · rw [S0, hr2, cutB_of h10] at e; cases e
    · rw [S0, hr2, cutB_of h10] at e4
      simp only [Option.some.injEq, Prod.mk.injEq] at e4
      have e5 := congrArg List.length e4.1
      rw [List.length_take] at e5
      have hl2 : i ≤ (l ++ 10 :: r2).length := by rw [← hr2, ← S0, ls_len]; omega
      have e6 : i = l.length := by omega
      rw [e1, e6] at ih; exact ih
  obtain ⟨N, hN⟩ : ∃ N : Nat, N = l.length + 1 := ⟨_, rfl⟩
  have sm : (l.length : Int) + 1 = (N : Int) := by omega
  have i7 : (N : Int) ≤ (s.size : Int) := by omega
  have i6 : 0 < N := by omega
  have i6b : decide (0 < N) = true := decide_eq_true i6
  have ez : (s.extract 0 N).size = N := by rw [ByteArray.size_extract]; omega
  have eN : ls (s.extract 0 N) = l ++ [10] := by
    rw [ls_extract, hs2, hN]
    rw [List.drop_zero, Nat.sub_zero, show l ++ 10 :: r = (l ++ [10]) ++ r by simp]
    exact List.take_left' (by simp)
  have eB : s.extract N s.size = tx r := ls_inj (by
    rw [ls_extract, ls_tx, List.take_of_length_le (by rw [List.length_drop, ls_len]; exact Nat.le_refl _), hs2, hN]
    rw [show l ++ 10 :: r = (l ++ [10]) ++ r by simp]
    exact List.drop_left' (by simp))
  have hpl : ls (tx (part ++ (l ++ [10]))) = part ++ l ++ [10] := by rw [ls_tx, List.append_assoc]
  have hpz : (tx (part ++ (l ++ [10]))).size ≤ 1099511627776 := by rw [tx_size]; simp; omega
  have cs : ∀ w, Calls Tryz.prog 79 #[.string (tx (part ++ (l ++ [10]))), .string ⟨#[13, 10]⟩] w fun e w' => e = .returned (.tuple #[.string (tx (part ++ (l ++ [10]))), .bool false]) ∧ w = w' := fun w =>
    end_no _ w hpz (fun x hx => by
      rw [hpl, show x ++ [13, 10] = (x ++ [13]) ++ [10] by simp] at hx
      have := List.append_cancel_right hx
      rw [this] at h13
      exact h13 (by simp))
  have HB := Lib.hid eB
  have HN := Lib.hid eN
  have HL := Lib.hid hl
  clear hs2 h10 h13 S0 eB eN hpl hz hr2 hN hpz
  have EZ := Lib.hid ez
  clear ez
  have HM := Lib.hid hm
  have HR0 := Lib.hid hr
  clear hm hr
  have d4 := H.c4
  go_enter Tryz.func63, Tryz.ntmps63
  go_wp2_with fail
  refine (ib _).mono ?_
  rintro e w' ⟨rfl, rfl⟩
  clear ib
  go_upto_region 6 with (fail)
  clear d4
  have H0 := H.drew
  have B0 : Goes w w.drew Z Z := Goes.of_below ((Below.refl _ _).drew) Z
  have d4 := H0.c4
  refine wp_region_any (by kernel_rfl) ?_
  change wpAny _ _ _ _ _ _ _ w.drew
  refine any_take 0 (.pointer (some ⟨p, 0, none⟩)) rfl (by kernel_rfl) (by kernel_rfl) (by kernel_rfl) (fun _ _ _ h => h) (Or.inl ⟨by rfl, fun x => by go_simp⟩) (fun K hK => ?_)
  go_simp
  refine hK _ _ ?_
  clear hK K
  refine any_take 1 (.pointer (some ⟨p, 0, none⟩)) rfl (by kernel_rfl) (by kernel_rfl) (by kernel_rfl) (fun _ _ _ h => h) (Or.inl ⟨by rfl, fun x => by go_simp⟩) (fun K hK => ?_)
  go_simp
  refine hK _ _ ?_
  clear hK K
  refine any_take 2 (.pointer (some ⟨p, 0, none⟩)) rfl (by kernel_rfl) (by kernel_rfl) (by kernel_rfl) (fun _ _ _ h => h) (Or.inl ⟨by rfl, fun x => by go_simp⟩) (fun K hK => ?_)
  go_simp
  refine hK _ _ ?_
  clear hK K
  refine any_take 3 (.pointer (some ⟨p, 4, none⟩)) rfl (by kernel_rfl) (by kernel_rfl) (by kernel_rfl) (fun _ _ _ h => h) (Or.inl ⟨by rfl, fun x => by go_simp⟩) (fun K hK => ?_)
  go_simp
  refine hK _ _ ?_
  clear hK K
  refine any_take 5 (.string s) rfl (by kernel_rfl) (by kernel_rfl) (by kernel_rfl) (fun _ _ _ h => h) (Or.inl ⟨by rfl, fun x => by go_simp⟩) (fun K hK => ?_)
  go_simp
  refine hK _ _ ?_
  clear hK K
  refine any_take 6 (.int .i64 (N : Int)) rfl (by kernel_rfl) (by kernel_rfl) (by kernel_rfl) (fun _ _ _ h => h) (Or.inl ⟨by rfl, fun x => by go_simp⟩) (fun K hK => ?_)
  go_simp
  refine hK _ _ ?_
  clear hK K
  refine any_take 7 (.string (s.extract 0 N)) rfl (by kernel_rfl) (by kernel_rfl) (by kernel_rfl) (fun _ _ _ h => h) (Or.inl ⟨by rfl, fun x => by go_simp⟩) (fun K hK => ?_)
  go_simp
  refine hK _ _ ?_
  clear hK K
  refine any_one 4 (by kernel_rfl) (fun K hK => wpOp_in rfl rfl ?_)
  go_simp
  refine hK _ _ ?_
  clear hK K
  refine any_one 8 (by kernel_rfl) (fun K hK => wpOp_in rfl rfl ?_)
  refine wp_app H0.px (s := s.extract 0 N) (by simp only; rw [EZ.out]; have := HL.out; omega) _ _ rfl rfl rfl ?_
  intro o4 m4 k4 w4 r4 g4 l4
  have hp4 := H0.st.same (g4.block p H0.st.lt fun e => row_ne H0.px H0.st e.symm rfl)
  have d4 := hp4.cell 4
  have q4 := hp4.frozen 4
  obtain ⟨H1, G1⟩ := H0.rowX g4 r4 l4
  clear hp4 r4 g4 l4
  refine hK _ _ ?_
  clear hK K
  refine any_take 9 (.pointer (some ⟨p, 0, none⟩)) rfl (by kernel_rfl) (by kernel_rfl) (by kernel_rfl) (fun _ _ _ h => h) (Or.inl ⟨by rfl, fun x => by go_simp⟩) (fun K hK => ?_)
  go_simp
  refine hK _ _ ?_
  clear hK K
  refine any_take 10 (.pointer (some ⟨p, 4, none⟩)) rfl (by kernel_rfl) (by kernel_rfl) (by kernel_rfl) (fun _ _ _ h => h) (Or.inl ⟨by rfl, fun x => by go_simp⟩) (fun K hK => ?_)
  go_simp
  refine hK _ _ ?_
  clear hK K
  refine any_one 11 (by kernel_rfl) (fun K hK => wpOp_in rfl rfl ?_)
  go_simp
  refine hK _ _ ?_
  clear hK K
  refine wpAny_done (by kernel_rfl) ?_ _
  generalize w4.setCell ⟨p, 4, none⟩ (.slice o4 m4 k4) = w5 at *
  generalize Zn Z (.slice o4 m4 k4) = Z1 at *
  have GA := B0.trans G1
  clear G1 B0 H0
  have H1b : ChAt w5 p (.slice o4 m4 k4) y z Z1 ⟨nx, most, n, due, part ++ (l ++ [10]), data, fs, rest, wr⟩ := by have h := H1; rw [HN.out] at h; exact h
  clear H1
  have e4 := H1b.px.len
  simp only at e4
  clear e4
  have cv := H1b.px.text
  simp only at cv
  have d4 := H1b.c4
  have f4 := H1b.fz 4
  obtain ⟨H2, G2⟩ := H1b.cutX
  simp only at H2
  generalize hP : tx (part ++ (l ++ [10])) = P at *
  clear hP
  go_wp2_with fail
  refine (cs _).mono ?_
  rintro e w' ⟨rfl, rfl⟩
  clear cs
  go_upto_region 13 with (fail)
  generalize w5.setCell ⟨p, 4, none⟩ (.slice o4 0 k4) = w6 at H2 G2 ⊢
  go_wp2_with fail
  go_ret3
  exact ⟨rfl, _, ⟨_, _, _, H2⟩, GA.trans G2⟩
set_option maxHeartbeats 4000000 in
theorem gather_badB {w : World} {p : Nat} {x y z : Value} {Z : Nat → Prop} {most n due : Int} {part data : List UInt8} {fs : Int} {rest : List UInt8} {wr nx : Int} (H : ChAt w p x y z Z ⟨nx, most, n, due, part, data, fs, rest, wr⟩) (s : ByteArray) (hs : s.size ≤ 549755813888) (h0 : 0 < s.size) (hr : 256 ≤ part.length + s.size) {l r : List UInt8} (hs2 : ls s = l ++ 10 :: r) (h10 : (10 : UInt8) ∉ l) (hl : part.length + l.length ≤ 255) (h13 : (part ++ l).getLast? ≠ some 13) :
    Calls Tryz.prog 63 #[.pointer (some ⟨p, 0, none⟩), .string s] w fun e w' => e = .returned (.tuple #[.string ⟨#[]⟩, .string ⟨#[]⟩, .int .i64 3]) ∧ Post w w' p Z ⟨nx, most, n, due, [], data, fs, rest, wr⟩ := by
  obtain ⟨ox, kx, ex, hx1, hx2⟩ := H.px.form
  simp only at ex hx1
  obtain ⟨m, hm⟩ : ∃ m, m = part.length := ⟨_, rfl⟩
  rw [← hm] at ex hx1
  subst ex
  have i9 : ((m : Int) ≤ 256) := by omega
  obtain ⟨R, hR⟩ : ∃ R : Nat, R = 256 - part.length := ⟨_, rfl⟩
  have em : 256 - (m : Int) = (R : Int) := by omega
  have nlt : ¬ (s.size : Int) < (R : Int) := by omega
  have i8 : (R : Int) ≤ (s.size : Int) := by omega
  have S0 : ls (s.extract 0 R) = (ls s).take R := by rw [ls_extract]; simp
  have hz : s.size = l.length + 1 + r.length := by rw [← ls_len, hs2]; simp; omega
  have hq : ∃ r2, (ls s).take R = l ++ 10 :: r2 := by
    obtain ⟨q, hq⟩ : ∃ q, R - l.length = q + 1 := ⟨R - l.length - 1, by omega⟩
    refine ⟨r.take q, ?_⟩
    rw [hs2, List.take_append, List.take_of_length_le (by omega), hq, List.take_succ_cons]
  obtain ⟨r2, hr2⟩ := hq
  have ib : ∀ w, Calls Tryz.prog 68 #[.string (s.extract 0 R), .int .u8 10] w fun e w' => e = .returned (.int .i64 (l.length)) ∧ w = w' := fun w => by
    have ih := indexByte_any (s.extract 0 R) 10 w
    rw [show ((10 : Int)).toNat.toUInt8 = 10 from rfl] at ih
    rcases idx_cases (s.extract 0 R) 10 with ⟨_, e⟩ | ⟨i, e1, e3, e4⟩
    · rw [S0, hr2, cutB_of h10] at e; cases e
    · rw [S0, hr2, cutB_of h10] at e4
      simp only [Option.some.injEq, Prod.mk.injEq] at e4
      have e5 := congrArg List.length e4.1
      rw [List.length_take] at e5
      have hl2 : i ≤ (l ++ 10 :: r2).length := by rw [← hr2, ← S0, ls_len]; omega
      have e6 : i = l.length := by omega
      rw [e1, e6] at ih; exact ih
  obtain ⟨N, hN⟩ : ∃ N : Nat, N = l.length + 1 := ⟨_, rfl⟩
  have sm : (l.length : Int) + 1 = (N : Int) := by omega
  have i7 : (N : Int) ≤ (s.size : Int) := by omega
  have i6 : 0 < N := by omega
  have i6b : decide (0 < N) = true := decide_eq_true i6
  have ez : (s.extract 0 N).size = N := by rw [ByteArray.size_extract]; omega
  have eN : ls (s.extract 0 N) = l ++ [10] := by
    rw [ls_extract, hs2, hN]
    rw [List.drop_zero, Nat.sub_zero, show l ++ 10 :: r = (l ++ [10]) ++ r by simp]
    exact List.take_left' (by simp)
  have eB : s.extract N s.size = tx r := ls_inj (by
    rw [ls_extract, ls_tx, List.take_of_length_le (by rw [List.length_drop, ls_len]; exact Nat.le_refl _), hs2, hN]
    rw [show l ++ 10 :: r = (l ++ [10]) ++ r by simp]
    exact List.drop_left' (by simp))
  have hpl : ls (tx (part ++ (l ++ [10]))) = part ++ l ++ [10] := by rw [ls_tx, List.append_assoc]
  have hpz : (tx (part ++ (l ++ [10]))).size ≤ 1099511627776 := by rw [tx_size]; simp; omega
  have cs : ∀ w, Calls Tryz.prog 79 #[.string (tx (part ++ (l ++ [10]))), .string ⟨#[13, 10]⟩] w fun e w' => e = .returned (.tuple #[.string (tx (part ++ (l ++ [10]))), .bool false]) ∧ w = w' := fun w =>
    end_no _ w hpz (fun x hx => by
      rw [hpl, show x ++ [13, 10] = (x ++ [13]) ++ [10] by simp] at hx
      have := List.append_cancel_right hx
      rw [this] at h13
      exact h13 (by simp))
  have HB := Lib.hid eB
  have HN := Lib.hid eN
  have HL := Lib.hid hl
  clear hs2 h10 h13 S0 eB eN hpl hz hr2 hN hpz
  have EZ := Lib.hid ez
  clear ez
  have HM := Lib.hid hm
  have HR0 := Lib.hid hr
  clear hm hr
  have HR := Lib.hid hR
  clear hR
  have d4 := H.c4
  go_enter Tryz.func63, Tryz.ntmps63
  go_wp2_with fail
  refine (ib _).mono ?_
  rintro e w' ⟨rfl, rfl⟩
  clear ib
  go_upto_region 6 with (fail)
  clear d4
  have H0 := H.drew
  have B0 : Goes w w.drew Z Z := Goes.of_below ((Below.refl _ _).drew) Z
  have d4 := H0.c4
  refine wp_region_any (by kernel_rfl) ?_
  change wpAny _ _ _ _ _ _ _ w.drew
  refine any_take 0 (.pointer (some ⟨p, 0, none⟩)) rfl (by kernel_rfl) (by kernel_rfl) (by kernel_rfl) (fun _ _ _ h => h) (Or.inl ⟨by rfl, fun x => by go_simp⟩) (fun K hK => ?_)
  go_simp
  refine hK _ _ ?_
  clear hK K
  refine any_take 1 (.pointer (some ⟨p, 0, none⟩)) rfl (by kernel_rfl) (by kernel_rfl) (by kernel_rfl) (fun _ _ _ h => h) (Or.inl ⟨by rfl, fun x => by go_simp⟩) (fun K hK => ?_)
  go_simp
  refine hK _ _ ?_
  clear hK K
  refine any_take 2 (.pointer (some ⟨p, 0, none⟩)) rfl (by kernel_rfl) (by kernel_rfl) (by kernel_rfl) (fun _ _ _ h => h) (Or.inl ⟨by rfl, fun x => by go_simp⟩) (fun K hK => ?_)
  go_simp
  refine hK _ _ ?_
  clear hK K
  refine any_take 3 (.pointer (some ⟨p, 4, none⟩)) rfl (by kernel_rfl) (by kernel_rfl) (by kernel_rfl) (fun _ _ _ h => h) (Or.inl ⟨by rfl, fun x => by go_simp⟩) (fun K hK => ?_)
  go_simp
  refine hK _ _ ?_
  clear hK K
  refine any_take 5 (.string s) rfl (by kernel_rfl) (by kernel_rfl) (by kernel_rfl) (fun _ _ _ h => h) (Or.inl ⟨by rfl, fun x => by go_simp⟩) (fun K hK => ?_)
  go_simp
  refine hK _ _ ?_
  clear hK K
  refine any_take 6 (.int .i64 (N : Int)) rfl (by kernel_rfl) (by kernel_rfl) (by kernel_rfl) (fun _ _ _ h => h) (Or.inl ⟨by rfl, fun x => by go_simp⟩) (fun K hK => ?_)
  go_simp
  refine hK _ _ ?_
  clear hK K
  refine any_take 7 (.string (s.extract 0 N)) rfl (by kernel_rfl) (by kernel_rfl) (by kernel_rfl) (fun _ _ _ h => h) (Or.inl ⟨by rfl, fun x => by go_simp⟩) (fun K hK => ?_)
  go_simp
  refine hK _ _ ?_
  clear hK K
  refine any_one 4 (by kernel_rfl) (fun K hK => wpOp_in rfl rfl ?_)
  go_simp
  refine hK _ _ ?_
  clear hK K
  refine any_one 8 (by kernel_rfl) (fun K hK => wpOp_in rfl rfl ?_)
  refine wp_app H0.px (s := s.extract 0 N) (by simp only; rw [EZ.out]; have := HL.out; omega) _ _ rfl rfl rfl ?_
  intro o4 m4 k4 w4 r4 g4 l4
  have hp4 := H0.st.same (g4.block p H0.st.lt fun e => row_ne H0.px H0.st e.symm rfl)
  have d4 := hp4.cell 4
  have q4 := hp4.frozen 4
  obtain ⟨H1, G1⟩ := H0.rowX g4 r4 l4
  clear hp4 r4 g4 l4
  refine hK _ _ ?_
  clear hK K
  refine any_take 9 (.pointer (some ⟨p, 0, none⟩)) rfl (by kernel_rfl) (by kernel_rfl) (by kernel_rfl) (fun _ _ _ h => h) (Or.inl ⟨by rfl, fun x => by go_simp⟩) (fun K hK => ?_)
  go_simp
  refine hK _ _ ?_
  clear hK K
  refine any_take 10 (.pointer (some ⟨p, 4, none⟩)) rfl (by kernel_rfl) (by kernel_rfl) (by kernel_rfl) (fun _ _ _ h => h) (Or.inl ⟨by rfl, fun x => by go_simp⟩) (fun K hK => ?_)
  go_simp
  refine hK _ _ ?_
  clear hK K
  refine any_one 11 (by kernel_rfl) (fun K hK => wpOp_in rfl rfl ?_)
  go_simp
  refine hK _ _ ?_
  clear hK K
  refine wpAny_done (by kernel_rfl) ?_ _
  generalize w4.setCell ⟨p, 4, none⟩ (.slice o4 m4 k4) = w5 at *
  generalize Zn Z (.slice o4 m4 k4) = Z1 at *
  have GA := B0.trans G1
  clear G1 B0 H0
  have H1b : ChAt w5 p (.slice o4 m4 k4) y z Z1 ⟨nx, most, n, due, part ++ (l ++ [10]), data, fs, rest, wr⟩ := by have h := H1; rw [HN.out] at h; exact h
  clear H1
  have e4 := H1b.px.len
  simp only at e4
  clear e4
  have cv := H1b.px.text
  simp only at cv
  have d4 := H1b.c4
  have f4 := H1b.fz 4
  obtain ⟨H2, G2⟩ := H1b.cutX
  simp only at H2
  generalize hP : tx (part ++ (l ++ [10])) = P at *
  clear hP
  go_wp2_with fail
  refine (cs _).mono ?_
  rintro e w' ⟨rfl, rfl⟩
  clear cs
  go_upto_region 13 with (fail)
  generalize w5.setCell ⟨p, 4, none⟩ (.slice o4 0 k4) = w6 at H2 G2 ⊢
  go_wp2_with fail
  go_ret3
  exact ⟨rfl, _, ⟨_, _, _, H2⟩, GA.trans G2⟩
set_option maxHeartbeats 4000000 in
theorem gather_goodA {w : World} {p : Nat} {x y z : Value} {Z : Nat → Prop} {most n due : Int} {part data : List UInt8} {fs : Int} {rest : List UInt8} {wr nx : Int} (H : ChAt w p x y z Z ⟨nx, most, n, due, part, data, fs, rest, wr⟩) (s : ByteArray) (hs : s.size ≤ 549755813888) (h0 : 0 < s.size) (hr : part.length + s.size < 256) {l r t : List UInt8} (hs2 : ls s = l ++ 10 :: r) (h10 : (10 : UInt8) ∉ l) (hl : part.length + l.length ≤ 255) (h13 : part ++ l = t ++ [13]) :
    Calls Tryz.prog 63 #[.pointer (some ⟨p, 0, none⟩), .string s] w fun e w' => e = .returned (.tuple #[.string (tx t), .string (tx r), .int .i64 0]) ∧ Post w w' p Z ⟨nx, most, n, due, [], data, fs, rest, wr⟩ := by
  obtain ⟨ox, kx, ex, hx1, hx2⟩ := H.px.form
  simp only at ex hx1
  obtain ⟨m, hm⟩ : ∃ m, m = part.length := ⟨_, rfl⟩
  rw [← hm] at ex hx1
  subst ex
  have i9 : ((m : Int) ≤ 256) := by omega
  have lt : (s.size : Int) < 256 - (m : Int) := by omega
  have S0 : ls s = ls s := rfl
  have hz : s.size = l.length + 1 + r.length := by rw [← ls_len, hs2]; simp; omega
  have hq : ∃ r2, ls s = l ++ 10 :: r2 := ⟨r, hs2⟩
  obtain ⟨r2, hr2⟩ := hq
  have ib : ∀ w, Calls Tryz.prog 68 #[.string s, .int .u8 10] w fun e w' => e = .returned (.int .i64 (l.length)) ∧ w = w' := fun w => by
    have ih := indexByte_any s 10 w
    rw [show ((10 : Int)).toNat.toUInt8 = 10 from rfl] at ih
    rcases idx_cases s 10 with ⟨_, e⟩ | ⟨i, e1, e3, e4⟩
    · rw [S0, hr2, cutB_of h10] at e; cases e
    · rw [S0, hr2, cutB_of h10] at e4
      simp only [Option.some.injEq, Prod.mk.injEq] at e4
      have e5 := congrArg List.length e4.1
      rw [List.length_take] at e5
      have hl2 : i ≤ (l ++ 10 :: r2).length := by rw [← hr2, ← S0, ls_len]; omega
      have e6 : i = l.length := by omega
      rw [e1, e6] at ih; exact ih
  obtain ⟨N, hN⟩ : ∃ N : Nat, N = l.length + 1 := ⟨_, rfl⟩
  have sm : (l.length : Int) + 1 = (N : Int) := by omega
  have i7 : (N : Int) ≤ (s.size : Int) := by omega
  have i6 : 0 < N := by omega
  have i6b : decide (0 < N) = true := decide_eq_true i6
  have ez : (s.extract 0 N).size = N := by rw [ByteArray.size_extract]; omega
  have eN : ls (s.extract 0 N) = l ++ [10] := by
    rw [ls_extract, hs2, hN]
    rw [List.drop_zero, Nat.sub_zero, show l ++ 10 :: r = (l ++ [10]) ++ r by simp]
    exact List.take_left' (by simp)
  have eB : s.extract N s.size = tx r := ls_inj (by
    rw [ls_extract, ls_tx, List.take_of_length_le (by rw [List.length_drop, ls_len]; exact Nat.le_refl _), hs2, hN]
    rw [show l ++ 10 :: r = (l ++ [10]) ++ r by simp]
    exact List.drop_left' (by simp))
  have hpl : ls (tx (part ++ (l ++ [10]))) = part ++ l ++ [10] := by rw [ls_tx, List.append_assoc]
  have hpz : (tx (part ++ (l ++ [10]))).size ≤ 1099511627776 := by rw [tx_size]; simp; omega
  have cs : ∀ w, Calls Tryz.prog 79 #[.string (tx (part ++ (l ++ [10]))), .string ⟨#[13, 10]⟩] w fun e w' => e = .returned (.tuple #[.string (tx t), .bool true]) ∧ w = w' := fun w =>
    end_yes _ t w hpz (by rw [hpl, h13]; simp)
  have HB := Lib.hid eB
  have HN := Lib.hid eN
  have HL := Lib.hid hl
  clear hs2 h10 h13 S0 eB eN hpl hz hr2 hN hpz
  have EZ := Lib.hid ez
  clear ez
  have HM := Lib.hid hm
  have HR0 := Lib.hid hr
  clear hm hr
  have d4 := H.c4
  go_enter Tryz.func63, Tryz.ntmps63
  go_wp2_with fail
  refine (ib _).mono ?_
  rintro e w' ⟨rfl, rfl⟩
  clear ib
  go_upto_region 6 with (fail)
  clear d4
  have H0 := H.drew
  have B0 : Goes w w.drew Z Z := Goes.of_below ((Below.refl _ _).drew) Z
  have d4 := H0.c4
  refine wp_region_any (by kernel_rfl) ?_
  change wpAny _ _ _ _ _ _ _ w.drew
  refine any_take 0 (.pointer (some ⟨p, 0, none⟩)) rfl (by kernel_rfl) (by kernel_rfl) (by kernel_rfl) (fun _ _ _ h => h) (Or.inl ⟨by rfl, fun x => by go_simp⟩) (fun K hK => ?_)
  go_simp
  refine hK _ _ ?_
  clear hK K
  refine any_take 1 (.pointer (some ⟨p, 0, none⟩)) rfl (by kernel_rfl) (by kernel_rfl) (by kernel_rfl) (fun _ _ _ h => h) (Or.inl ⟨by rfl, fun x => by go_simp⟩) (fun K hK => ?_)
  go_simp
  refine hK _ _ ?_
  clear hK K
  refine any_take 2 (.pointer (some ⟨p, 0, none⟩)) rfl (by kernel_rfl) (by kernel_rfl) (by kernel_rfl) (fun _ _ _ h => h) (Or.inl ⟨by rfl, fun x => by go_simp⟩) (fun K hK => ?_)
  go_simp
  refine hK _ _ ?_
  clear hK K
  refine any_take 3 (.pointer (some ⟨p, 4, none⟩)) rfl (by kernel_rfl) (by kernel_rfl) (by kernel_rfl) (fun _ _ _ h => h) (Or.inl ⟨by rfl, fun x => by go_simp⟩) (fun K hK => ?_)
  go_simp
  refine hK _ _ ?_
  clear hK K
  refine any_take 5 (.string s) rfl (by kernel_rfl) (by kernel_rfl) (by kernel_rfl) (fun _ _ _ h => h) (Or.inl ⟨by rfl, fun x => by go_simp⟩) (fun K hK => ?_)
  go_simp
  refine hK _ _ ?_
  clear hK K
  refine any_take 6 (.int .i64 (N : Int)) rfl (by kernel_rfl) (by kernel_rfl) (by kernel_rfl) (fun _ _ _ h => h) (Or.inl ⟨by rfl, fun x => by go_simp⟩) (fun K hK => ?_)
  go_simp
  refine hK _ _ ?_
  clear hK K
  refine any_take 7 (.string (s.extract 0 N)) rfl (by kernel_rfl) (by kernel_rfl) (by kernel_rfl) (fun _ _ _ h => h) (Or.inl ⟨by rfl, fun x => by go_simp⟩) (fun K hK => ?_)
  go_simp
  refine hK _ _ ?_
  clear hK K
  refine any_one 4 (by kernel_rfl) (fun K hK => wpOp_in rfl rfl ?_)
  go_simp
  refine hK _ _ ?_
  clear hK K
  refine any_one 8 (by kernel_rfl) (fun K hK => wpOp_in rfl rfl ?_)
  refine wp_app H0.px (s := s.extract 0 N) (by simp only; rw [EZ.out]; have := HL.out; omega) _ _ rfl rfl rfl ?_
  intro o4 m4 k4 w4 r4 g4 l4
  have hp4 := H0.st.same (g4.block p H0.st.lt fun e => row_ne H0.px H0.st e.symm rfl)
  have d4 := hp4.cell 4
  have q4 := hp4.frozen 4
  obtain ⟨H1, G1⟩ := H0.rowX g4 r4 l4
  clear hp4 r4 g4 l4
  refine hK _ _ ?_
  clear hK K
  refine any_take 9 (.pointer (some ⟨p, 0, none⟩)) rfl (by kernel_rfl) (by kernel_rfl) (by kernel_rfl) (fun _ _ _ h => h) (Or.inl ⟨by rfl, fun x => by go_simp⟩) (fun K hK => ?_)
  go_simp
  refine hK _ _ ?_
  clear hK K
  refine any_take 10 (.pointer (some ⟨p, 4, none⟩)) rfl (by kernel_rfl) (by kernel_rfl) (by kernel_rfl) (fun _ _ _ h => h) (Or.inl ⟨by rfl, fun x => by go_simp⟩) (fun K hK => ?_)
  go_simp
  refine hK _ _ ?_
  clear hK K
  refine any_one 11 (by kernel_rfl) (fun K hK => wpOp_in rfl rfl ?_)
  go_simp
  refine hK _ _ ?_
  clear hK K
  refine wpAny_done (by kernel_rfl) ?_ _
  generalize w4.setCell ⟨p, 4, none⟩ (.slice o4 m4 k4) = w5 at *
  generalize Zn Z (.slice o4 m4 k4) = Z1 at *
  have GA := B0.trans G1
  clear G1 B0 H0
  have H1b : ChAt w5 p (.slice o4 m4 k4) y z Z1 ⟨nx, most, n, due, part ++ (l ++ [10]), data, fs, rest, wr⟩ := by have h := H1; rw [HN.out] at h; exact h
  clear H1
  have e4 := H1b.px.len
  simp only at e4
  clear e4
  have cv := H1b.px.text
  simp only at cv
  have d4 := H1b.c4
  have f4 := H1b.fz 4
  obtain ⟨H2, G2⟩ := H1b.cutX
  simp only at H2
  generalize hP : tx (part ++ (l ++ [10])) = P at *
  clear hP
  go_wp2_with fail
  refine (cs _).mono ?_
  rintro e w' ⟨rfl, rfl⟩
  clear cs
  go_upto_region 13 with (fail)
  generalize w5.setCell ⟨p, 4, none⟩ (.slice o4 0 k4) = w6 at H2 G2 ⊢
  go_wp2_with fail
  go_quiet (fail)
  have H3 := H2.old (w' := w6.drewN nq) ⟨rfl, rfl, rfl, Nat.le_refl _, fun _ _ => rfl⟩
  have BQ : Below w6.heap.size w6 (w6.drewN nq) := ⟨rfl, rfl, rfl, Nat.le_refl _, fun _ _ => rfl⟩
  have G3 : Goes w6 (w6.drewN nq) Z1 Z1 := Goes.of_below BQ Z1
  clear BQ
  generalize w6.drewN nq = w7 at H3 G3 ⊢
  go_wp2
  go_ret3
  exact ⟨by rw [← HB.out]; rfl, _, ⟨_, _, _, H3⟩, GA.trans (G2.trans G3)⟩
set_option maxHeartbeats 4000000 in
theorem gather_goodB {w : World} {p : Nat} {x y z : Value} {Z : Nat → Prop} {most n due : Int} {part data : List UInt8} {fs : Int} {rest : List UInt8} {wr nx : Int} (H : ChAt w p x y z Z ⟨nx, most, n, due, part, data, fs, rest, wr⟩) (s : ByteArray) (hs : s.size ≤ 549755813888) (h0 : 0 < s.size) (hr : 256 ≤ part.length + s.size) {l r t : List UInt8} (hs2 : ls s = l ++ 10 :: r) (h10 : (10 : UInt8) ∉ l) (hl : part.length + l.length ≤ 255) (h13 : part ++ l = t ++ [13]) :
    Calls Tryz.prog 63 #[.pointer (some ⟨p, 0, none⟩), .string s] w fun e w' => e = .returned (.tuple #[.string (tx t), .string (tx r), .int .i64 0]) ∧ Post w w' p Z ⟨nx, most, n, due, [], data, fs, rest, wr⟩ := by
  obtain ⟨ox, kx, ex, hx1, hx2⟩ := H.px.form
  simp only at ex hx1
  obtain ⟨m, hm⟩ : ∃ m, m = part.length := ⟨_, rfl⟩
  rw [← hm] at ex hx1
  subst ex
  have i9 : ((m : Int) ≤ 256) := by omega
  obtain ⟨R, hR⟩ : ∃ R : Nat, R = 256 - part.length := ⟨_, rfl⟩
  have em : 256 - (m : Int) = (R : Int) := by omega
  have nlt : ¬ (s.size : Int) < (R : Int) := by omega
  have i8 : (R : Int) ≤ (s.size : Int) := by omega
  have S0 : ls (s.extract 0 R) = (ls s).take R := by rw [ls_extract]; simp
  have hz : s.size = l.length + 1 + r.length := by rw [← ls_len, hs2]; simp; omega
  have hq : ∃ r2, (ls s).take R = l ++ 10 :: r2 := by
    obtain ⟨q, hq⟩ : ∃ q, R - l.length = q + 1 := ⟨R - l.length - 1, by omega⟩
    refine ⟨r.take q, ?_⟩
    rw [hs2, List.take_append, List.take_of_length_le (by omega), hq, List.take_succ_cons]
  obtain ⟨r2, hr2⟩ := hq
  have ib : ∀ w, Calls Tryz.prog 68 #[.string (s.extract 0 R), .int .u8 10] w fun e w' => e = .returned (.int .i64 (l.length)) ∧ w = w' := fun w => by
    have ih := indexByte_any (s.extract 0 R) 10 w
    rw [show ((10 : Int)).toNat.toUInt8 = 10 from rfl] at ih
    rcases idx_cases (s.extract 0 R) 10 with ⟨_, e⟩ | ⟨i, e1, e3, e4⟩
    · rw [S0, hr2, cutB_of h10] at e; cases e
    · rw [S0, hr2, cutB_of h10] at e4
      simp only [Option.some.injEq, Prod.mk.injEq] at e4
      have e5 := congrArg List.length e4.1
      rw [List.length_take] at e5
      have hl2 : i ≤ (l ++ 10 :: r2).length := by rw [← hr2, ← S0, ls_len]; omega
      have e6 : i = l.length := by omega
      rw [e1, e6] at ih; exact ih
  obtain ⟨N, hN⟩ : ∃ N : Nat, N = l.length + 1 := ⟨_, rfl⟩
  have sm : (l.length : Int) + 1 = (N : Int) := by omega
  have i7 : (N : Int) ≤ (s.size : Int) := by omega
  have i6 : 0 < N := by omega
  have i6b : decide (0 < N) = true := decide_eq_true i6
  have ez : (s.extract 0 N).size = N := by rw [ByteArray.size_extract]; omega
  have eN : ls (s.extract 0 N) = l ++ [10] := by
    rw [ls_extract, hs2, hN]
    rw [List.drop_zero, Nat.sub_zero, show l ++ 10 :: r = (l ++ [10]) ++ r by simp]
    exact List.take_left' (by simp)
  have eB : s.extract N s.size = tx r := ls_inj (by
    rw [ls_extract, ls_tx, List.take_of_length_le (by rw [List.length_drop, ls_len]; exact Nat.le_refl _), hs2, hN]
    rw [show l ++ 10 :: r = (l ++ [10]) ++ r by simp]
    exact List.drop_left' (by simp))
  have hpl : ls (tx (part ++ (l ++ [10]))) = part ++ l ++ [10] := by rw [ls_tx, List.append_assoc]
  have hpz : (tx (part ++ (l ++ [10]))).size ≤ 1099511627776 := by rw [tx_size]; simp; omega
  have cs : ∀ w, Calls Tryz.prog 79 #[.string (tx (part ++ (l ++ [10]))), .string ⟨#[13, 10]⟩] w fun e w' => e = .returned (.tuple #[.string (tx t), .bool true]) ∧ w = w' := fun w =>
    end_yes _ t w hpz (by rw [hpl, h13]; simp)
  have HB := Lib.hid eB
  have HN := Lib.hid eN
  have HL := Lib.hid hl
  clear hs2 h10 h13 S0 eB eN hpl hz hr2 hN hpz
  have EZ := Lib.hid ez
  clear ez
  have HM := Lib.hid hm
  have HR0 := Lib.hid hr
  clear hm hr
  have HR := Lib.hid hR
  clear hR
  have d4 := H.c4
  go_enter Tryz.func63, Tryz.ntmps63
  go_wp2_with fail
  refine (ib _).mono ?_
  rintro e w' ⟨rfl, rfl⟩
  clear ib
  go_upto_region 6 with (fail)
  clear d4
  have H0 := H.drew
  have B0 : Goes w w.drew Z Z := Goes.of_below ((Below.refl _ _).drew) Z
  have d4 := H0.c4
  refine wp_region_any (by kernel_rfl) ?_
  change wpAny _ _ _ _ _ _ _ w.drew
  refine any_take 0 (.pointer (some ⟨p, 0, none⟩)) rfl (by kernel_rfl) (by kernel_rfl) (by kernel_rfl) (fun _ _ _ h => h) (Or.inl ⟨by rfl, fun x => by go_simp⟩) (fun K hK => ?_)
  go_simp
  refine hK _ _ ?_
  clear hK K
  refine any_take 1 (.pointer (some ⟨p, 0, none⟩)) rfl (by kernel_rfl) (by kernel_rfl) (by kernel_rfl) (fun _ _ _ h => h) (Or.inl ⟨by rfl, fun x => by go_simp⟩) (fun K hK => ?_)
  go_simp
  refine hK _ _ ?_
  clear hK K
  refine any_take 2 (.pointer (some ⟨p, 0, none⟩)) rfl (by kernel_rfl) (by kernel_rfl) (by kernel_rfl) (fun _ _ _ h => h) (Or.inl ⟨by rfl, fun x => by go_simp⟩) (fun K hK => ?_)
  go_simp
  refine hK _ _ ?_
  clear hK K
  refine any_take 3 (.pointer (some ⟨p, 4, none⟩)) rfl (by kernel_rfl) (by kernel_rfl) (by kernel_rfl) (fun _ _ _ h => h) (Or.inl ⟨by rfl, fun x => by go_simp⟩) (fun K hK => ?_)
  go_simp
  refine hK _ _ ?_
  clear hK K
  refine any_take 5 (.string s) rfl (by kernel_rfl) (by kernel_rfl) (by kernel_rfl) (fun _ _ _ h => h) (Or.inl ⟨by rfl, fun x => by go_simp⟩) (fun K hK => ?_)
  go_simp
  refine hK _ _ ?_
  clear hK K
  refine any_take 6 (.int .i64 (N : Int)) rfl (by kernel_rfl) (by kernel_rfl) (by kernel_rfl) (fun _ _ _ h => h) (Or.inl ⟨by rfl, fun x => by go_simp⟩) (fun K hK => ?_)
  go_simp
  refine hK _ _ ?_
  clear hK K
  refine any_take 7 (.string (s.extract 0 N)) rfl (by kernel_rfl) (by kernel_rfl) (by kernel_rfl) (fun _ _ _ h => h) (Or.inl ⟨by rfl, fun x => by go_simp⟩) (fun K hK => ?_)
  go_simp
  refine hK _ _ ?_
  clear hK K
  refine any_one 4 (by kernel_rfl) (fun K hK => wpOp_in rfl rfl ?_)
  go_simp
  refine hK _ _ ?_
  clear hK K
  refine any_one 8 (by kernel_rfl) (fun K hK => wpOp_in rfl rfl ?_)
  refine wp_app H0.px (s := s.extract 0 N) (by simp only; rw [EZ.out]; have := HL.out; omega) _ _ rfl rfl rfl ?_
  intro o4 m4 k4 w4 r4 g4 l4
  have hp4 := H0.st.same (g4.block p H0.st.lt fun e => row_ne H0.px H0.st e.symm rfl)
  have d4 := hp4.cell 4
  have q4 := hp4.frozen 4
  obtain ⟨H1, G1⟩ := H0.rowX g4 r4 l4
  clear hp4 r4 g4 l4
  refine hK _ _ ?_
  clear hK K
  refine any_take 9 (.pointer (some ⟨p, 0, none⟩)) rfl (by kernel_rfl) (by kernel_rfl) (by kernel_rfl) (fun _ _ _ h => h) (Or.inl ⟨by rfl, fun x => by go_simp⟩) (fun K hK => ?_)
  go_simp
  refine hK _ _ ?_
  clear hK K
  refine any_take 10 (.pointer (some ⟨p, 4, none⟩)) rfl (by kernel_rfl) (by kernel_rfl) (by kernel_rfl) (fun _ _ _ h => h) (Or.inl ⟨by rfl, fun x => by go_simp⟩) (fun K hK => ?_)
  go_simp
  refine hK _ _ ?_
  clear hK K
  refine any_one 11 (by kernel_rfl) (fun K hK => wpOp_in rfl rfl ?_)
  go_simp
  refine hK _ _ ?_
  clear hK K
  refine wpAny_done (by kernel_rfl) ?_ _
  generalize w4.setCell ⟨p, 4, none⟩ (.slice o4 m4 k4) = w5 at *
  generalize Zn Z (.slice o4 m4 k4) = Z1 at *
  have GA := B0.trans G1
  clear G1 B0 H0
  have H1b : ChAt w5 p (.slice o4 m4 k4) y z Z1 ⟨nx, most, n, due, part ++ (l ++ [10]), data, fs, rest, wr⟩ := by have h := H1; rw [HN.out] at h; exact h
  clear H1
  have e4 := H1b.px.len
  simp only at e4
  clear e4
  have cv := H1b.px.text
  simp only at cv
  have d4 := H1b.c4
  have f4 := H1b.fz 4
  obtain ⟨H2, G2⟩ := H1b.cutX
  simp only at H2
  generalize hP : tx (part ++ (l ++ [10])) = P at *
  clear hP
  go_wp2_with fail
  refine (cs _).mono ?_
  rintro e w' ⟨rfl, rfl⟩
  clear cs
  go_upto_region 13 with (fail)
  generalize w5.setCell ⟨p, 4, none⟩ (.slice o4 0 k4) = w6 at H2 G2 ⊢
  go_wp2_with fail
  go_quiet (fail)
  have H3 := H2.old (w' := w6.drewN nq) ⟨rfl, rfl, rfl, Nat.le_refl _, fun _ _ => rfl⟩
  have BQ : Below w6.heap.size w6 (w6.drewN nq) := ⟨rfl, rfl, rfl, Nat.le_refl _, fun _ _ => rfl⟩
  have G3 : Goes w6 (w6.drewN nq) Z1 Z1 := Goes.of_below BQ Z1
  clear BQ
  generalize w6.drewN nq = w7 at H3 G3 ⊢
  go_wp2
  go_ret3
  exact ⟨by rw [← HB.out]; rfl, _, ⟨_, _, _, H3⟩, GA.trans (G2.trans G3)⟩
end Go.Proofs.YtdldoklkenhopaaGreatDoor.Ch
