/-
  Contracts of the methods by which a body in chunks is read: data, its end, a line, its number, a field.
-/
import Derived.Test.YtdldoklkenhopaaGreatDoorChMem
import Derived.Test.YtdldoklkenhopaaGreatDoorChStr
import Derived.Test.YtdldoklkenhopaaGreatDoorChSize
namespace Go.Proofs.YtdldoklkenhopaaGreatDoor.Ch
open Go.RowKit Go.PlainAid
open Hx Fi
set_option linter.unusedVariables false
set_option maxRecDepth 20000
set_option linter.unusedSimpArgs false

set_option maxHeartbeats 4000000 in
theorem readData_few {w : World} {p : Nat} {x y z : Value} {Z : Nat → Prop} {most n : Int} {k : Nat} {part data : List UInt8} {fs : Int} {rest : List UInt8} {wr : Int} (H : ChAt w p x y z Z ⟨1, most, n, k, part, data, fs, rest, wr⟩) (s : ByteArray)
    (hk : s.size < k) (hk2 : (k : Int) ≤ 9223372036854775807) (hn0 : 0 ≤ n) (hn : n + s.size ≤ 9223372036854775807) (hd : data.length + s.size ≤ 1099511627776) :
    Calls Tryz.prog 61 #[.pointer (some ⟨p, 0, none⟩), .string s] w fun e w' => e = .returned (.string (tx [])) ∧ Post w w' p Z ⟨1, most, n + s.size, ((k - s.size : Nat) : Int), part, data ++ ls s, fs, rest, wr⟩ := by
  have d3 := H.c3
  simp only at d3
  have mi : min (k : Int) (s.size : Int) = (s.size : Int) := by omega
  have es : ls s = ls s := rfl
  have e0 : s.extract s.size s.size = tx [] := ls_inj (by rw [ls_extract, ls_tx]; simp)
  have j1 : (k : Int) - (s.size : Int) = ((k - s.size : Nat) : Int) := by omega
  have j2 : (((k - s.size : Nat) : Int) == 0) = false := by rw [beq_eq_false_iff_ne]; omega
  have j3 : ¬ ((k - s.size : Nat) : Int) = 0 := by omega
  have ES := Lib.hid es
  have E0 := Lib.hid e0
  clear es e0
  go_enter Tryz.func61, Tryz.ntmps61
  go_upto_region 2 with (fail)
  clear d3
  have H0 := H.drew
  have B0 : Goes w w.drew Z Z := Goes.of_below ((Below.refl _ _).drew) Z
  have d5 := H0.c5
  refine wp_region_any (by kernel_rfl) ?_
  change wpAny _ _ _ _ _ _ _ w.drew
  refine any_take 0 (.pointer (some ⟨p, 0, none⟩)) rfl (by kernel_rfl) (by kernel_rfl) (by kernel_rfl) (fun _ _ _ h => h) (Or.inl ⟨by rfl, fun x => by go_simp⟩) (fun K hK => ?_)
  go_simp
  refine hK _ _ ?_
  clear hK K
  refine any_take 1 (.pointer (some ⟨p, 0, none⟩)) rfl (by kernel_rfl) (by kernel_rfl) (by kernel_rfl) (fun _ _ _ h => h) (Or.inl ⟨by rfl, fun x => by go_simp⟩) (fun K hK => ?_)
  go_simp
  refine hK _ _ ?_
  clear hK K
  refine any_take 2 (.pointer (some ⟨p, 0, none⟩)) rfl (by kernel_rfl) (by kernel_rfl) (by kernel_rfl) (fun _ _ _ h => h) (Or.inl ⟨by rfl, fun x => by go_simp⟩) (fun K hK => ?_)
  go_simp
  refine hK _ _ ?_
  clear hK K
  refine any_take 3 (.pointer (some ⟨p, 5, none⟩)) rfl (by kernel_rfl) (by kernel_rfl) (by kernel_rfl) (fun _ _ _ h => h) (Or.inl ⟨by rfl, fun x => by go_simp⟩) (fun K hK => ?_)
  go_simp
  refine hK _ _ ?_
  clear hK K
  refine any_take 5 (.string s) rfl (by kernel_rfl) (by kernel_rfl) (by kernel_rfl) (fun _ _ _ h => h) (Or.inl ⟨by rfl, fun x => by go_simp⟩) (fun K hK => ?_)
  go_simp
  refine hK _ _ ?_
  clear hK K
  refine any_take 6 (.int .i64 (s.size : Int)) rfl (by kernel_rfl) (by kernel_rfl) (by kernel_rfl) (fun _ _ _ h => h) (Or.inl ⟨by rfl, fun x => by go_simp⟩) (fun K hK => ?_)
  go_simp
  refine hK _ _ ?_
  clear hK K
  refine any_take 7 (.string s) rfl (by kernel_rfl) (by kernel_rfl) (by kernel_rfl) (fun _ _ _ h => h) (Or.inl ⟨by rfl, fun x => by go_simp⟩) (fun K hK => ?_)
  go_simp
  refine hK _ _ ?_
  clear hK K
  refine any_one 4 (by kernel_rfl) (fun K hK => wpOp_in rfl rfl ?_)
  go_simp
  refine hK _ _ ?_
  clear hK K
  refine any_one 8 (by kernel_rfl) (fun K hK => wpOp_in rfl rfl ?_)
  refine wp_app H0.py (s := s) (by simp only; omega) _ _ rfl rfl rfl ?_
  intro o4 m4 k4 w4 r4 g4 l4
  have hp4 := H0.st.same (g4.block p H0.st.lt fun e => row_ne H0.py H0.st e.symm rfl)
  have d4 := hp4.cell 5
  have q4 := hp4.frozen 5
  obtain ⟨H1, G1⟩ := H0.rowY g4 r4 l4
  clear hp4 r4 g4 l4
  refine hK _ _ ?_
  clear hK K
  refine any_take 9 (.pointer (some ⟨p, 0, none⟩)) rfl (by kernel_rfl) (by kernel_rfl) (by kernel_rfl) (fun _ _ _ h => h) (Or.inl ⟨by rfl, fun x => by go_simp⟩) (fun K hK => ?_)
  go_simp
  refine hK _ _ ?_
  clear hK K
  refine any_take 10 (.pointer (some ⟨p, 5, none⟩)) rfl (by kernel_rfl) (by kernel_rfl) (by kernel_rfl) (fun _ _ _ h => h) (Or.inl ⟨by rfl, fun x => by go_simp⟩) (fun K hK => ?_)
  go_simp
  refine hK _ _ ?_
  clear hK K
  refine any_one 11 (by kernel_rfl) (fun K hK => wpOp_in rfl rfl ?_)
  go_simp
  refine hK _ _ ?_
  clear hK K
  refine wpAny_done (by kernel_rfl) ?_ _
  generalize w4.setCell ⟨p, 5, none⟩ (.slice o4 m4 k4) = w5 at *
  generalize Zn Z (.slice o4 m4 k4) = Z1 at *
  have GA := B0.trans G1
  clear G1 B0
  clear H0
  have H1b : ChAt w5 p x (.slice o4 m4 k4) z Z1 ⟨1, most, n, k, part, data ++ ls s, fs, rest, wr⟩ := by have h := H1; simp only [ES.out] at h; exact h
  clear H1
  have d2 := H1b.c2
  have f2 := H1b.fz 2
  simp only at d2
  go_upto_region 4 with (fail)
  obtain ⟨H2, G2⟩ := H1b.num 2 (.int .i64 (n + (s.size : Int))) (c' := ⟨1, most, n + (s.size : Int), k, part, data ++ ls s, fs, rest, wr⟩) rfl rfl rfl rfl
  generalize w5.setCell ⟨p, 2, none⟩ (.int .i64 (n + (s.size : Int))) = w6 at H2 G2 ⊢
  clear d2 f2 H1b
  have d3 := H2.c3
  have f3 := H2.fz 3
  simp only at d3
  go_upto_region 5 with (fail)
  obtain ⟨H3, G3⟩ := H2.num 3 (.int .i64 (((k - s.size : Nat) : Int))) (c' := ⟨1, most, n + (s.size : Int), ((k - s.size : Nat) : Int), part, data ++ ls s, fs, rest, wr⟩) rfl rfl rfl rfl
  generalize w6.setCell ⟨p, 3, none⟩ (.int .i64 (((k - s.size : Nat) : Int))) = w7 at H3 G3 ⊢
  clear d3 f3 H2
  have d3 := H3.c3
  have f0 := H3.fz 0
  have d0 := H3.c0
  simp only at d3 d0
  go_wp2
  go_ret
  exact ⟨by first | rfl | (rw [← E0.out]; rfl), _, ⟨_, _, _, H3⟩, GA.trans (G2.trans G3)⟩
set_option maxHeartbeats 4000000 in
theorem readData_all {w : World} {p : Nat} {x y z : Value} {Z : Nat → Prop} {most n : Int} {k : Nat} {part data : List UInt8} {fs : Int} {rest : List UInt8} {wr : Int} (H : ChAt w p x y z Z ⟨1, most, n, k, part, data, fs, rest, wr⟩) (s : ByteArray)
    (hk : k ≤ s.size) (hk2 : (k : Int) ≤ 9223372036854775807) (hn0 : 0 ≤ n) (hn : n + k ≤ 9223372036854775807) (hd : data.length + s.size ≤ 1099511627776) :
    Calls Tryz.prog 61 #[.pointer (some ⟨p, 0, none⟩), .string s] w fun e w' => e = .returned (.string (tx ((ls s).drop k))) ∧ Post w w' p Z ⟨2, most, n + k, 0, part, data ++ (ls s).take k, fs, rest, wr⟩ := by
  have d3 := H.c3
  simp only at d3
  have mi : min (k : Int) (s.size : Int) = (k : Int) := by omega
  have es : ls (s.extract 0 k) = (ls s).take k := by rw [ls_extract]; simp
  have ez : (s.extract 0 k).size = k := by rw [ByteArray.size_extract]; omega
  have e0 : s.extract k s.size = tx ((ls s).drop k) := ls_inj (by rw [ls_extract, ls_tx]; exact List.take_of_length_le (by rw [List.length_drop, ls_len]; exact Nat.le_refl _))
  have i1 : (k : Int) ≤ (s.size : Int) := by omega
  have ES := Lib.hid es
  have E0 := Lib.hid e0
  clear es e0
  have EZ := Lib.hid ez
  clear ez
  go_enter Tryz.func61, Tryz.ntmps61
  go_upto_region 2 with (fail)
  clear d3
  have H0 := H.drew
  have B0 : Goes w w.drew Z Z := Goes.of_below ((Below.refl _ _).drew) Z
  have d5 := H0.c5
  refine wp_region_any (by kernel_rfl) ?_
  change wpAny _ _ _ _ _ _ _ w.drew
  refine any_take 0 (.pointer (some ⟨p, 0, none⟩)) rfl (by kernel_rfl) (by kernel_rfl) (by kernel_rfl) (fun _ _ _ h => h) (Or.inl ⟨by rfl, fun x => by go_simp⟩) (fun K hK => ?_)
  go_simp
  refine hK _ _ ?_
  clear hK K
  refine any_take 1 (.pointer (some ⟨p, 0, none⟩)) rfl (by kernel_rfl) (by kernel_rfl) (by kernel_rfl) (fun _ _ _ h => h) (Or.inl ⟨by rfl, fun x => by go_simp⟩) (fun K hK => ?_)
  go_simp
  refine hK _ _ ?_
  clear hK K
  refine any_take 2 (.pointer (some ⟨p, 0, none⟩)) rfl (by kernel_rfl) (by kernel_rfl) (by kernel_rfl) (fun _ _ _ h => h) (Or.inl ⟨by rfl, fun x => by go_simp⟩) (fun K hK => ?_)
  go_simp
  refine hK _ _ ?_
  clear hK K
  refine any_take 3 (.pointer (some ⟨p, 5, none⟩)) rfl (by kernel_rfl) (by kernel_rfl) (by kernel_rfl) (fun _ _ _ h => h) (Or.inl ⟨by rfl, fun x => by go_simp⟩) (fun K hK => ?_)
  go_simp
  refine hK _ _ ?_
  clear hK K
  refine any_take 5 (.string s) rfl (by kernel_rfl) (by kernel_rfl) (by kernel_rfl) (fun _ _ _ h => h) (Or.inl ⟨by rfl, fun x => by go_simp⟩) (fun K hK => ?_)
  go_simp
  refine hK _ _ ?_
  clear hK K
  refine any_take 6 (.int .i64 (k : Int)) rfl (by kernel_rfl) (by kernel_rfl) (by kernel_rfl) (fun _ _ _ h => h) (Or.inl ⟨by rfl, fun x => by go_simp⟩) (fun K hK => ?_)
  go_simp
  refine hK _ _ ?_
  clear hK K
  refine any_take 7 (.string (s.extract 0 k)) rfl (by kernel_rfl) (by kernel_rfl) (by kernel_rfl) (fun _ _ _ h => h) (Or.inl ⟨by rfl, fun x => by go_simp⟩) (fun K hK => ?_)
  go_simp
  refine hK _ _ ?_
  clear hK K
  refine any_one 4 (by kernel_rfl) (fun K hK => wpOp_in rfl rfl ?_)
  go_simp
  refine hK _ _ ?_
  clear hK K
  refine any_one 8 (by kernel_rfl) (fun K hK => wpOp_in rfl rfl ?_)
  refine wp_app H0.py (s := (s.extract 0 k)) (by simp only; rw [EZ.out]; omega) _ _ rfl rfl rfl ?_
  intro o4 m4 k4 w4 r4 g4 l4
  have hp4 := H0.st.same (g4.block p H0.st.lt fun e => row_ne H0.py H0.st e.symm rfl)
  have d4 := hp4.cell 5
  have q4 := hp4.frozen 5
  obtain ⟨H1, G1⟩ := H0.rowY g4 r4 l4
  clear hp4 r4 g4 l4
  refine hK _ _ ?_
  clear hK K
  refine any_take 9 (.pointer (some ⟨p, 0, none⟩)) rfl (by kernel_rfl) (by kernel_rfl) (by kernel_rfl) (fun _ _ _ h => h) (Or.inl ⟨by rfl, fun x => by go_simp⟩) (fun K hK => ?_)
  go_simp
  refine hK _ _ ?_
  clear hK K
  refine any_take 10 (.pointer (some ⟨p, 5, none⟩)) rfl (by kernel_rfl) (by kernel_rfl) (by kernel_rfl) (fun _ _ _ h => h) (Or.inl ⟨by rfl, fun x => by go_simp⟩) (fun K hK => ?_)
  go_simp
  refine hK _ _ ?_
  clear hK K
  refine any_one 11 (by kernel_rfl) (fun K hK => wpOp_in rfl rfl ?_)
  go_simp
  refine hK _ _ ?_
  clear hK K
  refine wpAny_done (by kernel_rfl) ?_ _
  generalize w4.setCell ⟨p, 5, none⟩ (.slice o4 m4 k4) = w5 at *
  generalize Zn Z (.slice o4 m4 k4) = Z1 at *
  have GA := B0.trans G1
  clear G1 B0
  clear H0
  have H1b : ChAt w5 p x (.slice o4 m4 k4) z Z1 ⟨1, most, n, k, part, data ++ (ls s).take k, fs, rest, wr⟩ := by have h := H1; simp only [ES.out] at h; exact h
  clear H1
  have d2 := H1b.c2
  have f2 := H1b.fz 2
  simp only at d2
  go_upto_region 4 with (fail)
  obtain ⟨H2, G2⟩ := H1b.num 2 (.int .i64 (n + (k : Int))) (c' := ⟨1, most, n + (k : Int), k, part, data ++ (ls s).take k, fs, rest, wr⟩) rfl rfl rfl rfl
  generalize w5.setCell ⟨p, 2, none⟩ (.int .i64 (n + (k : Int))) = w6 at H2 G2 ⊢
  clear d2 f2 H1b
  have d3 := H2.c3
  have f3 := H2.fz 3
  simp only at d3
  go_upto_region 5 with (fail)
  obtain ⟨H3, G3⟩ := H2.num 3 (.int .i64 (0)) (c' := ⟨1, most, n + (k : Int), 0, part, data ++ (ls s).take k, fs, rest, wr⟩) rfl rfl rfl rfl
  generalize w6.setCell ⟨p, 3, none⟩ (.int .i64 (0)) = w7 at H3 G3 ⊢
  clear d3 f3 H2
  have d3 := H3.c3
  have f0 := H3.fz 0
  have d0 := H3.c0
  simp only at d3 d0
  go_upto_region 7 with (fail)
  obtain ⟨H4, G4⟩ := H3.num 0 (.int .i64 2) (c' := ⟨2, most, n + (k : Int), 0, part, data ++ (ls s).take k, fs, rest, wr⟩) rfl rfl rfl rfl
  generalize w7.setCell ⟨p, 0, none⟩ (.int .i64 2) = w8 at H4 G4 ⊢
  go_wp2
  go_ret
  exact ⟨by first | rfl | (rw [← E0.out]; rfl), _, ⟨_, _, _, H4⟩, GA.trans (G2.trans (G3.trans G4))⟩
set_option maxHeartbeats 4000000 in
theorem readSize_err {w : World} {p : Nat} {x y z : Value} {Z : Nat → Prop} {most n due : Int} {part data : List UInt8} {fs : Int} {rest : List UInt8} {wr nx : Int} (H : ChAt w p x y z Z ⟨nx, most, n, due, part, data, fs, rest, wr⟩) (s : ByteArray) (hs : s.size ≤ 549755813888) (hm1 : 0 ≤ n) (hm2 : n ≤ most) (hm3 : most ≤ 9223372036854775807) {e0 : Int} (hq : numF (ls s) (most - n) = .error e0) (he : e0 = 3 ∨ e0 = 4) :
    Calls Tryz.prog 64 #[.pointer (some ⟨p, 0, none⟩), .string s] w fun e w' => e = .returned (.int .i64 e0) ∧ Post w w' p Z ⟨nx, most, n, due, part, data, fs, rest, wr⟩ := by
  have so : ∀ w, Calls Tryz.prog 80 #[.string s, .int .i64 (most - n)] w fun e w' => e = .returned (.tuple #[.int .i64 0, .int .i64 e0]) ∧ Below w.heap.size w w' := fun w => by
    have h := sizeOf_any s (most - n) w hs (by omega) (by omega)
    rw [hq] at h
    exact h
  have wr1 : IntKind.i64.wrap (most - n) = most - n := IntWalk.i64_in _ (by omega)
  clear hq
  have g0 : (e0 != 0) = true := by rw [bne_iff_ne]; omega
  clear he
  go_enter Tryz.func64, Tryz.ntmps64
  go_upto_region 1 with (fail)
  refine wp_region_held (S := fun u => ChAt u p x y z Z ⟨nx, most, n, due, part, data, fs, rest, wr⟩) (by kernel_rfl) ?_
  change wpAnyH _ _ _ _ _ _ _ _ w.drew
  have J := H.drew
  have B0 : Below w.heap.size w w.drew := (Below.refl _ _).drew
  have hz0 : w.heap.size ≤ w.drew.heap.size := Nat.le_refl _
  generalize w.drew = w1 at J B0 hz0 ⊢
  refine held_take 0 (.string s) rfl (by kernel_rfl) (by kernel_rfl) (by kernel_rfl) (fun _ _ _ h => h) (Or.inl ⟨by rfl, fun x j => by go_simp⟩) J (fun K hK => ?_)
  go_simp
  refine hK _ _ ?_
  clear hK K
  refine held_take 1 (.pointer (some ⟨p, 0, none⟩)) rfl (by kernel_rfl) (by kernel_rfl) (by kernel_rfl) (fun _ _ _ h => h) (Or.inl ⟨by rfl, fun x j => by go_simp⟩) J (fun K hK => ?_)
  go_simp
  refine hK _ _ ?_
  clear hK K
  refine held_take 2 (.pointer (some ⟨p, 0, none⟩)) rfl (by kernel_rfl) (by kernel_rfl) (by kernel_rfl) (fun _ _ _ h => h) (Or.inl ⟨by rfl, fun x j => by go_simp⟩) J (fun K hK => ?_)
  go_simp
  refine hK _ _ ?_
  clear hK K
  refine held_take 3 (.pointer (some ⟨p, 1, none⟩)) rfl (by kernel_rfl) (by kernel_rfl) (by kernel_rfl) (fun _ _ _ h => h) (Or.inl ⟨by rfl, fun x j => by go_simp⟩) J (fun K hK => ?_)
  go_simp
  refine hK _ _ ?_
  clear hK K
  refine held_take 4 (.int .i64 most) rfl (by kernel_rfl) (by kernel_rfl) (by kernel_rfl) (fun _ _ _ h => h) (Or.inl ⟨by rfl, fun x j => by have q := j.c1; simp only at q; go_simp⟩) J (fun K hK => ?_)
  go_simp
  refine hK _ _ ?_
  clear hK K
  refine held_take 5 (.pointer (some ⟨p, 0, none⟩)) rfl (by kernel_rfl) (by kernel_rfl) (by kernel_rfl) (fun _ _ _ h => h) (Or.inl ⟨by rfl, fun x j => by go_simp⟩) J (fun K hK => ?_)
  go_simp
  refine hK _ _ ?_
  clear hK K
  refine held_take 6 (.pointer (some ⟨p, 0, none⟩)) rfl (by kernel_rfl) (by kernel_rfl) (by kernel_rfl) (fun _ _ _ h => h) (Or.inl ⟨by rfl, fun x j => by go_simp⟩) J (fun K hK => ?_)
  go_simp
  refine hK _ _ ?_
  clear hK K
  refine held_take 7 (.pointer (some ⟨p, 2, none⟩)) rfl (by kernel_rfl) (by kernel_rfl) (by kernel_rfl) (fun _ _ _ h => h) (Or.inl ⟨by rfl, fun x j => by go_simp⟩) J (fun K hK => ?_)
  go_simp
  refine hK _ _ ?_
  clear hK K
  refine held_take 8 (.int .i64 n) rfl (by kernel_rfl) (by kernel_rfl) (by kernel_rfl) (fun _ _ _ h => h) (Or.inl ⟨by rfl, fun x j => by have q := j.c2; simp only at q; go_simp⟩) J (fun K hK => ?_)
  go_simp
  refine hK _ _ ?_
  clear hK K
  refine held_take 9 (.int .i64 (most - n)) rfl (by kernel_rfl) (by kernel_rfl) (by kernel_rfl) (fun _ _ _ h => h) (Or.inl ⟨by rfl, fun x j => by go_simp⟩) J (fun K hK => ?_)
  go_simp
  refine hK _ _ ?_
  clear hK K
  refine held_one 10 (by kernel_rfl) (fun K hK => wpOp_in rfl rfl ?_)
  go_simp
  refine (so _).mono ?_
  rintro e w2 ⟨rfl, b2⟩
  have J2 := J.old b2
  have B2 := B0.trans (b2.mono hz0)
  refine hK _ _ J2 ?_
  clear so J b2 B0
  clear hK K
  refine held_take 11 (.tuple #[.int .i64 0, .int .i64 e0]) rfl (by kernel_rfl) (by kernel_rfl) (by kernel_rfl) (fun _ _ _ h => h) (Or.inl ⟨by rfl, fun x j => by go_simp⟩) J2 (fun K hK => ?_)
  go_simp
  refine hK _ _ ?_
  clear hK K
  refine held_take 12 (.int .i64 0) rfl (by kernel_rfl) (by kernel_rfl) (by kernel_rfl) (fun _ _ _ h => h) (Or.inl ⟨by rfl, fun x j => by go_simp⟩) J2 (fun K hK => ?_)
  go_simp
  refine hK _ _ ?_
  clear hK K
  refine held_take 13 (.int .i64 e0) rfl (by kernel_rfl) (by kernel_rfl) (by kernel_rfl) (fun _ _ _ h => h) (Or.inl ⟨by rfl, fun x j => by go_simp⟩) J2 (fun K hK => ?_)
  go_simp
  refine hK _ _ ?_
  clear hK K
  refine held_take 14 (.int .i64 0) rfl (by kernel_rfl) (by kernel_rfl) (by kernel_rfl) (fun _ _ _ h => h) (Or.inl ⟨by rfl, fun x j => by go_simp⟩) J2 (fun K hK => ?_)
  go_simp
  refine hK _ _ ?_
  clear hK K
  refine held_take 15 (.int .i64 e0) rfl (by kernel_rfl) (by kernel_rfl) (by kernel_rfl) (fun _ _ _ h => h) (Or.inl ⟨by rfl, fun x j => by go_simp⟩) J2 (fun K hK => ?_)
  go_simp
  refine hK _ _ ?_
  clear hK K
  refine wpAnyH_done (by kernel_rfl) ?_ _
  have GB : Goes w w2 Z Z := Goes.of_below B2 Z
  clear wr1
  go_wp2
  go_ret
  exact ⟨rfl, _, ⟨_, _, _, J2⟩, GB⟩
set_option maxHeartbeats 4000000 in
theorem readSize_last {w : World} {p : Nat} {x y z : Value} {Z : Nat → Prop} {most n due : Int} {part data : List UInt8} {fs : Int} {rest : List UInt8} {wr nx : Int} (H : ChAt w p x y z Z ⟨nx, most, n, due, part, data, fs, rest, wr⟩) (s : ByteArray) (hs : s.size ≤ 549755813888) (hm1 : 0 ≤ n) (hm2 : n ≤ most) (hm3 : most ≤ 9223372036854775807) (hq : numF (ls s) (most - n) = .ok 0) :
    Calls Tryz.prog 64 #[.pointer (some ⟨p, 0, none⟩), .string s] w fun e w' => e = .returned (.int .i64 0) ∧ Post w w' p Z ⟨3, most, n, due, part, data, fs, rest, wr⟩ := by
  have so : ∀ w, Calls Tryz.prog 80 #[.string s, .int .i64 (most - n)] w fun e w' => e = .returned (.tuple #[.int .i64 0, .int .i64 0]) ∧ Below w.heap.size w w' := fun w => by
    have h := sizeOf_any s (most - n) w hs (by omega) (by omega)
    rw [hq] at h
    exact h
  have wr1 : IntKind.i64.wrap (most - n) = most - n := IntWalk.i64_in _ (by omega)
  clear hq
  go_enter Tryz.func64, Tryz.ntmps64
  go_upto_region 1 with (fail)
  refine wp_region_held (S := fun u => ChAt u p x y z Z ⟨nx, most, n, due, part, data, fs, rest, wr⟩) (by kernel_rfl) ?_
  change wpAnyH _ _ _ _ _ _ _ _ w.drew
  have J := H.drew
  have B0 : Below w.heap.size w w.drew := (Below.refl _ _).drew
  have hz0 : w.heap.size ≤ w.drew.heap.size := Nat.le_refl _
  generalize w.drew = w1 at J B0 hz0 ⊢
  refine held_take 0 (.string s) rfl (by kernel_rfl) (by kernel_rfl) (by kernel_rfl) (fun _ _ _ h => h) (Or.inl ⟨by rfl, fun x j => by go_simp⟩) J (fun K hK => ?_)
  go_simp
  refine hK _ _ ?_
  clear hK K
  refine held_take 1 (.pointer (some ⟨p, 0, none⟩)) rfl (by kernel_rfl) (by kernel_rfl) (by kernel_rfl) (fun _ _ _ h => h) (Or.inl ⟨by rfl, fun x j => by go_simp⟩) J (fun K hK => ?_)
  go_simp
  refine hK _ _ ?_
  clear hK K
  refine held_take 2 (.pointer (some ⟨p, 0, none⟩)) rfl (by kernel_rfl) (by kernel_rfl) (by kernel_rfl) (fun _ _ _ h => h) (Or.inl ⟨by rfl, fun x j => by go_simp⟩) J (fun K hK => ?_)
  go_simp
  refine hK _ _ ?_
  clear hK K
  refine held_take 3 (.pointer (some ⟨p, 1, none⟩)) rfl (by kernel_rfl) (by kernel_rfl) (by kernel_rfl) (fun _ _ _ h => h) (Or.inl ⟨by rfl, fun x j => by go_simp⟩) J (fun K hK => ?_)
  go_simp
  refine hK _ _ ?_
  clear hK K
  refine held_take 4 (.int .i64 most) rfl (by kernel_rfl) (by kernel_rfl) (by kernel_rfl) (fun _ _ _ h => h) (Or.inl ⟨by rfl, fun x j => by have q := j.c1; simp only at q; go_simp⟩) J (fun K hK => ?_)
  go_simp
  refine hK _ _ ?_
  clear hK K
  refine held_take 5 (.pointer (some ⟨p, 0, none⟩)) rfl (by kernel_rfl) (by kernel_rfl) (by kernel_rfl) (fun _ _ _ h => h) (Or.inl ⟨by rfl, fun x j => by go_simp⟩) J (fun K hK => ?_)
  go_simp
  refine hK _ _ ?_
  clear hK K
  refine held_take 6 (.pointer (some ⟨p, 0, none⟩)) rfl (by kernel_rfl) (by kernel_rfl) (by kernel_rfl) (fun _ _ _ h => h) (Or.inl ⟨by rfl, fun x j => by go_simp⟩) J (fun K hK => ?_)
  go_simp
  refine hK _ _ ?_
  clear hK K
  refine held_take 7 (.pointer (some ⟨p, 2, none⟩)) rfl (by kernel_rfl) (by kernel_rfl) (by kernel_rfl) (fun _ _ _ h => h) (Or.inl ⟨by rfl, fun x j => by go_simp⟩) J (fun K hK => ?_)
  go_simp
  refine hK _ _ ?_
  clear hK K
  refine held_take 8 (.int .i64 n) rfl (by kernel_rfl) (by kernel_rfl) (by kernel_rfl) (fun _ _ _ h => h) (Or.inl ⟨by rfl, fun x j => by have q := j.c2; simp only at q; go_simp⟩) J (fun K hK => ?_)
  go_simp
  refine hK _ _ ?_
  clear hK K
  refine held_take 9 (.int .i64 (most - n)) rfl (by kernel_rfl) (by kernel_rfl) (by kernel_rfl) (fun _ _ _ h => h) (Or.inl ⟨by rfl, fun x j => by go_simp⟩) J (fun K hK => ?_)
  go_simp
  refine hK _ _ ?_
  clear hK K
  refine held_one 10 (by kernel_rfl) (fun K hK => wpOp_in rfl rfl ?_)
  go_simp
  refine (so _).mono ?_
  rintro e w2 ⟨rfl, b2⟩
  have J2 := J.old b2
  have B2 := B0.trans (b2.mono hz0)
  refine hK _ _ J2 ?_
  clear so J b2 B0
  clear hK K
  refine held_take 11 (.tuple #[.int .i64 0, .int .i64 0]) rfl (by kernel_rfl) (by kernel_rfl) (by kernel_rfl) (fun _ _ _ h => h) (Or.inl ⟨by rfl, fun x j => by go_simp⟩) J2 (fun K hK => ?_)
  go_simp
  refine hK _ _ ?_
  clear hK K
  refine held_take 12 (.int .i64 0) rfl (by kernel_rfl) (by kernel_rfl) (by kernel_rfl) (fun _ _ _ h => h) (Or.inl ⟨by rfl, fun x j => by go_simp⟩) J2 (fun K hK => ?_)
  go_simp
  refine hK _ _ ?_
  clear hK K
  refine held_take 13 (.int .i64 0) rfl (by kernel_rfl) (by kernel_rfl) (by kernel_rfl) (fun _ _ _ h => h) (Or.inl ⟨by rfl, fun x j => by go_simp⟩) J2 (fun K hK => ?_)
  go_simp
  refine hK _ _ ?_
  clear hK K
  refine held_take 14 (.int .i64 0) rfl (by kernel_rfl) (by kernel_rfl) (by kernel_rfl) (fun _ _ _ h => h) (Or.inl ⟨by rfl, fun x j => by go_simp⟩) J2 (fun K hK => ?_)
  go_simp
  refine hK _ _ ?_
  clear hK K
  refine held_take 15 (.int .i64 0) rfl (by kernel_rfl) (by kernel_rfl) (by kernel_rfl) (fun _ _ _ h => h) (Or.inl ⟨by rfl, fun x j => by go_simp⟩) J2 (fun K hK => ?_)
  go_simp
  refine hK _ _ ?_
  clear hK K
  refine wpAnyH_done (by kernel_rfl) ?_ _
  have GB : Goes w w2 Z Z := Goes.of_below B2 Z
  clear wr1
  have f0 := J2.fz 0
  have d0 := J2.c0
  simp only at d0
  obtain ⟨H4, G4⟩ := J2.num 0 (.int .i64 3) (c' := ⟨3, most, n, due, part, data, fs, rest, wr⟩) rfl rfl rfl rfl
  go_wp2
  go_ret
  exact ⟨rfl, _, ⟨_, _, _, H4⟩, GB.trans G4⟩
set_option maxHeartbeats 4000000 in
theorem readSize_more {w : World} {p : Nat} {x y z : Value} {Z : Nat → Prop} {most n due : Int} {part data : List UInt8} {fs : Int} {rest : List UInt8} {wr nx : Int} (H : ChAt w p x y z Z ⟨nx, most, n, due, part, data, fs, rest, wr⟩) (s : ByteArray) (hs : s.size ≤ 549755813888) (hm1 : 0 ≤ n) (hm2 : n ≤ most) (hm3 : most ≤ 9223372036854775807) {d : Nat} (hq : numF (ls s) (most - n) = .ok d) (hd : 0 < d) :
    Calls Tryz.prog 64 #[.pointer (some ⟨p, 0, none⟩), .string s] w fun e w' => e = .returned (.int .i64 0) ∧ Post w w' p Z ⟨1, most, n, d, part, data, fs, rest, wr⟩ := by
  have so : ∀ w, Calls Tryz.prog 80 #[.string s, .int .i64 (most - n)] w fun e w' => e = .returned (.tuple #[.int .i64 (d : Int), .int .i64 0]) ∧ Below w.heap.size w w' := fun w => by
    have h := sizeOf_any s (most - n) w hs (by omega) (by omega)
    rw [hq] at h
    exact h
  have wr1 : IntKind.i64.wrap (most - n) = most - n := IntWalk.i64_in _ (by omega)
  clear hq
  have g0 : ((d : Int) == 0) = false := by rw [beq_eq_false_iff_ne]; omega
  have g1 : ¬ (d : Int) = 0 := by omega
  clear hd
  go_enter Tryz.func64, Tryz.ntmps64
  go_upto_region 1 with (fail)
  refine wp_region_held (S := fun u => ChAt u p x y z Z ⟨nx, most, n, due, part, data, fs, rest, wr⟩) (by kernel_rfl) ?_
  change wpAnyH _ _ _ _ _ _ _ _ w.drew
  have J := H.drew
  have B0 : Below w.heap.size w w.drew := (Below.refl _ _).drew
  have hz0 : w.heap.size ≤ w.drew.heap.size := Nat.le_refl _
  generalize w.drew = w1 at J B0 hz0 ⊢
  refine held_take 0 (.string s) rfl (by kernel_rfl) (by kernel_rfl) (by kernel_rfl) (fun _ _ _ h => h) (Or.inl ⟨by rfl, fun x j => by go_simp⟩) J (fun K hK => ?_)
  go_simp
  refine hK _ _ ?_
  clear hK K
  refine held_take 1 (.pointer (some ⟨p, 0, none⟩)) rfl (by kernel_rfl) (by kernel_rfl) (by kernel_rfl) (fun _ _ _ h => h) (Or.inl ⟨by rfl, fun x j => by go_simp⟩) J (fun K hK => ?_)
  go_simp
  refine hK _ _ ?_
  clear hK K
  refine held_take 2 (.pointer (some ⟨p, 0, none⟩)) rfl (by kernel_rfl) (by kernel_rfl) (by kernel_rfl) (fun _ _ _ h => h) (Or.inl ⟨by rfl, fun x j => by go_simp⟩) J (fun K hK => ?_)
  go_simp
  refine hK _ _ ?_
  clear hK K
  refine held_take 3 (.pointer (some ⟨p, 1, none⟩)) rfl (by kernel_rfl) (by kernel_rfl) (by kernel_rfl) (fun _ _ _ h => h) (Or.inl ⟨by rfl, fun x j => by go_simp⟩) J (fun K hK => ?_)
  go_simp
  refine hK _ _ ?_
  clear hK K
  refine held_take 4 (.int .i64 most) rfl (by kernel_rfl) (by kernel_rfl) (by kernel_rfl) (fun _ _ _ h => h) (Or.inl ⟨by rfl, fun x j => by have q := j.c1; simp only at q; go_simp⟩) J (fun K hK => ?_)
  go_simp
  refine hK _ _ ?_
  clear hK K
  refine held_take 5 (.pointer (some ⟨p, 0, none⟩)) rfl (by kernel_rfl) (by kernel_rfl) (by kernel_rfl) (fun _ _ _ h => h) (Or.inl ⟨by rfl, fun x j => by go_simp⟩) J (fun K hK => ?_)
  go_simp
  refine hK _ _ ?_
  clear hK K
  refine held_take 6 (.pointer (some ⟨p, 0, none⟩)) rfl (by kernel_rfl) (by kernel_rfl) (by kernel_rfl) (fun _ _ _ h => h) (Or.inl ⟨by rfl, fun x j => by go_simp⟩) J (fun K hK => ?_)
  go_simp
  refine hK _ _ ?_
  clear hK K
  refine held_take 7 (.pointer (some ⟨p, 2, none⟩)) rfl (by kernel_rfl) (by kernel_rfl) (by kernel_rfl) (fun _ _ _ h => h) (Or.inl ⟨by rfl, fun x j => by go_simp⟩) J (fun K hK => ?_)
  go_simp
  refine hK _ _ ?_
  clear hK K
  refine held_take 8 (.int .i64 n) rfl (by kernel_rfl) (by kernel_rfl) (by kernel_rfl) (fun _ _ _ h => h) (Or.inl ⟨by rfl, fun x j => by have q := j.c2; simp only at q; go_simp⟩) J (fun K hK => ?_)
  go_simp
  refine hK _ _ ?_
  clear hK K
  refine held_take 9 (.int .i64 (most - n)) rfl (by kernel_rfl) (by kernel_rfl) (by kernel_rfl) (fun _ _ _ h => h) (Or.inl ⟨by rfl, fun x j => by go_simp⟩) J (fun K hK => ?_)
  go_simp
  refine hK _ _ ?_
  clear hK K
  refine held_one 10 (by kernel_rfl) (fun K hK => wpOp_in rfl rfl ?_)
  go_simp
  refine (so _).mono ?_
  rintro e w2 ⟨rfl, b2⟩
  have J2 := J.old b2
  have B2 := B0.trans (b2.mono hz0)
  refine hK _ _ J2 ?_
  clear so J b2 B0
  clear hK K
  refine held_take 11 (.tuple #[.int .i64 (d : Int), .int .i64 0]) rfl (by kernel_rfl) (by kernel_rfl) (by kernel_rfl) (fun _ _ _ h => h) (Or.inl ⟨by rfl, fun x j => by go_simp⟩) J2 (fun K hK => ?_)
  go_simp
  refine hK _ _ ?_
  clear hK K
  refine held_take 12 (.int .i64 (d : Int)) rfl (by kernel_rfl) (by kernel_rfl) (by kernel_rfl) (fun _ _ _ h => h) (Or.inl ⟨by rfl, fun x j => by go_simp⟩) J2 (fun K hK => ?_)
  go_simp
  refine hK _ _ ?_
  clear hK K
  refine held_take 13 (.int .i64 0) rfl (by kernel_rfl) (by kernel_rfl) (by kernel_rfl) (fun _ _ _ h => h) (Or.inl ⟨by rfl, fun x j => by go_simp⟩) J2 (fun K hK => ?_)
  go_simp
  refine hK _ _ ?_
  clear hK K
  refine held_take 14 (.int .i64 (d : Int)) rfl (by kernel_rfl) (by kernel_rfl) (by kernel_rfl) (fun _ _ _ h => h) (Or.inl ⟨by rfl, fun x j => by go_simp⟩) J2 (fun K hK => ?_)
  go_simp
  refine hK _ _ ?_
  clear hK K
  refine held_take 15 (.int .i64 0) rfl (by kernel_rfl) (by kernel_rfl) (by kernel_rfl) (fun _ _ _ h => h) (Or.inl ⟨by rfl, fun x j => by go_simp⟩) J2 (fun K hK => ?_)
  go_simp
  refine hK _ _ ?_
  clear hK K
  refine wpAnyH_done (by kernel_rfl) ?_ _
  have GB : Goes w w2 Z Z := Goes.of_below B2 Z
  clear wr1
  have f3 := J2.fz 3
  have d3 := J2.c3
  simp only at d3
  go_upto_region 3 with (fail)
  obtain ⟨H4, G4⟩ := J2.num 3 (.int .i64 (d : Int)) (c' := ⟨nx, most, n, d, part, data, fs, rest, wr⟩) rfl rfl rfl rfl
  generalize w2.setCell ⟨p, 3, none⟩ (.int .i64 (d : Int)) = w3 at H4 G4 ⊢
  clear f3 d3
  have f0 := H4.fz 0
  have d0 := H4.c0
  simp only at d0
  obtain ⟨H5, G5⟩ := H4.num 0 (.int .i64 1) (c' := ⟨1, most, n, d, part, data, fs, rest, wr⟩) rfl rfl rfl rfl
  go_wp2
  go_ret
  exact ⟨rfl, _, ⟨_, _, _, H5⟩, GB.trans (G4.trans G5)⟩
set_option maxHeartbeats 4000000 in
theorem readField_end {w : World} {p : Nat} {x y z : Value} {Z : Nat → Prop} {most n due : Int} {part data : List UInt8} {fs : Int} {rest : List UInt8} {wr nx : Int} (H : ChAt w p x y z Z ⟨nx, most, n, due, part, data, fs, rest, wr⟩) (s : ByteArray) (hs : s.size ≤ 549755813888) (h0 : s.size = 0) :
    Calls Tryz.prog 65 #[.pointer (some ⟨p, 0, none⟩), .string s] w fun e w' => e = .returned (.int .i64 0) ∧ Post w w' p Z ⟨4, most, n, due, part, data, fs, rest, wr⟩ := by
  have h1 := toList_nil s h0
  clear h0
  have f0 := H.fz 0
  have d0 := H.c0
  simp only at d0
  obtain ⟨H4, G4⟩ := H.num 0 (.int .i64 4) (c' := ⟨4, most, n, due, part, data, fs, rest, wr⟩) rfl rfl rfl rfl
  go_enter Tryz.func65, Tryz.ntmps65
  go_wp2
  go_ret
  exact ⟨rfl, _, ⟨_, _, _, H4⟩, G4⟩
set_option maxHeartbeats 4000000 in
theorem readField_form {w : World} {p : Nat} {x y z : Value} {Z : Nat → Prop} {most n due : Int} {part data : List UInt8} {fs : Int} {rest : List UInt8} {wr nx : Int} (H : ChAt w p x y z Z ⟨nx, most, n, due, part, data, fs, rest, wr⟩) (s : ByteArray) (hs : s.size ≤ 549755813888) (h0 : 0 < s.size) (hp : parseF (ls s) = none) :
    Calls Tryz.prog 65 #[.pointer (some ⟨p, 0, none⟩), .string s] w fun e w' => e = .returned (.int .i64 3) ∧ Post w w' p Z ⟨nx, most, n, due, part, data, fs, rest, wr⟩ := by
  have h1 := toList_ne s h0
  have h2 := toList_ne' s h0
  clear h0
  have pa : ∀ w, Calls Tryz.prog 74 #[.string s] w fun e w' => e = .returned (.tuple #[.agg (fdV (pF (ls s))), .int .i64 3]) ∧ Below w.heap.size w w' := fun w => by
    have h := parse_any s w (by omega)
    unfold ParsePost at h
    rw [(p_none hp).2] at h
    exact h
  clear hp
  generalize pF (ls s) = f at *
  go_enter Tryz.func65, Tryz.ntmps65
  go_wp2_with fail
  refine (pa _).mono ?_
  rintro e w1 ⟨rfl, b1⟩
  clear pa
  obtain ⟨X, S, A, B, _⟩ := fd_keep w1 f
  have BX := b1.trans (B.mono b1.size)
  have HX := H.old BX
  have GB : Goes w X Z Z := Goes.of_below BX Z
  clear b1 A B BX
  go_wp2_with (refine wpl_store S rfl rfl rfl rfl rfl ?_)
  go_ret
  exact ⟨rfl, _, ⟨_, _, _, HX⟩, GB⟩
set_option maxHeartbeats 4000000 in
theorem readField_long {w : World} {p : Nat} {x y z : Value} {Z : Nat → Prop} {most n due : Int} {part data : List UInt8} {fs : Int} {rest : List UInt8} {wr nx : Int} (H : ChAt w p x y z Z ⟨nx, most, n, due, part, data, fs, rest, wr⟩) (s : ByteArray) (hs : s.size ≤ 549755813888) (h0 : 0 < s.size) {g : Fi.Fd} (hp : parseF (ls s) = some g) (hf : fs = 16) :
    Calls Tryz.prog 65 #[.pointer (some ⟨p, 0, none⟩), .string s] w fun e w' => e = .returned (.int .i64 4) ∧ Post w w' p Z ⟨nx, most, n, due, part, data, fs, rest, wr⟩ := by
  have h1 := toList_ne s h0
  have h2 := toList_ne' s h0
  clear h0
  have pa : ∀ w, Calls Tryz.prog 74 #[.string s] w fun e w' => e = .returned (.tuple #[.agg (fdV (pF (ls s))), .int .i64 0]) ∧ Below w.heap.size w w' := fun w => by
    have h := parse_any s w (by omega)
    unfold ParsePost at h
    rw [(p_some hp).2] at h
    exact h
  clear hp
  generalize pF (ls s) = f at *
  go_enter Tryz.func65, Tryz.ntmps65
  go_wp2_with fail
  refine (pa _).mono ?_
  rintro e w1 ⟨rfl, b1⟩
  clear pa
  obtain ⟨X, S, A, B, _⟩ := fd_keep w1 f
  have BX := b1.trans (B.mono b1.size)
  have HX := H.old BX
  have GB : Goes w X Z Z := Goes.of_below BX Z
  clear b1 A B BX
  have f6 := HX.fz 6
  have d6 := HX.c6
  simp only at d6
  subst hf
  go_wp2_with (refine wpl_store S rfl rfl rfl rfl rfl ?_)
  go_ret
  exact ⟨rfl, _, ⟨_, _, _, HX⟩, GB⟩
set_option maxHeartbeats 4000000 in
theorem readField_one {w : World} {p : Nat} {x y z : Value} {Z : Nat → Prop} {most n due : Int} {part data : List UInt8} {fs : Int} {rest : List UInt8} {wr nx : Int} (H : ChAt w p x y z Z ⟨nx, most, n, due, part, data, fs, rest, wr⟩) (s : ByteArray) (hs : s.size ≤ 549755813888) (h0 : 0 < s.size) {g : Fi.Fd} (hp : parseF (ls s) = some g) (hf0 : 0 ≤ fs) (hf : fs < 16) :
    Calls Tryz.prog 65 #[.pointer (some ⟨p, 0, none⟩), .string s] w fun e w' => e = .returned (.int .i64 0) ∧ Post w w' p Z ⟨nx, most, n, due, part, data, fs + 1, rest, wr⟩ := by
  have h1 := toList_ne s h0
  have h2 := toList_ne' s h0
  clear h0
  have pa : ∀ w, Calls Tryz.prog 74 #[.string s] w fun e w' => e = .returned (.tuple #[.agg (fdV (pF (ls s))), .int .i64 0]) ∧ Below w.heap.size w w' := fun w => by
    have h := parse_any s w (by omega)
    unfold ParsePost at h
    rw [(p_some hp).2] at h
    exact h
  clear hp
  generalize pF (ls s) = f at *
  go_enter Tryz.func65, Tryz.ntmps65
  go_wp2_with fail
  refine (pa _).mono ?_
  rintro e w1 ⟨rfl, b1⟩
  clear pa
  obtain ⟨X, S, A, B, _⟩ := fd_keep w1 f
  have BX := b1.trans (B.mono b1.size)
  have HX := H.old BX
  have GB : Goes w X Z Z := Goes.of_below BX Z
  clear b1 A B BX
  have f6 := HX.fz 6
  have d6 := HX.c6
  simp only at d6
  have g6 : (fs == 16) = false := by rw [beq_eq_false_iff_ne]; omega
  obtain ⟨H4, G4⟩ := HX.num 6 (.int .i64 (fs + 1)) (c' := ⟨nx, most, n, due, part, data, fs + 1, rest, wr⟩) rfl rfl rfl rfl
  go_wp2_with (refine wpl_store S rfl rfl rfl rfl rfl ?_)
  go_ret
  exact ⟨rfl, _, ⟨_, _, _, H4⟩, GB.trans G4⟩
end Go.Proofs.YtdldoklkenhopaaGreatDoor.Ch
