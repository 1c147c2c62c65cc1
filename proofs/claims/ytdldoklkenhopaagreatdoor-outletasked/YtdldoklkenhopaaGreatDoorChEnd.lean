/-
  Contracts of the methods by which a body in chunks is read: data, its end, a line, its number, a field.
-/
import Derived.Test.YtdldoklkenhopaaGreatDoorChMem
import Derived.Test.YtdldoklkenhopaaGreatDoorChStr
import Derived.Test.YtdldoklkenhopaaGreatDoorChSize
namespace Go.Proofs.YtdldoklkenhopaaGreatDoor.Ch
open Go.RowKit Go.PlainAid
open Hx Fi
set_option linter.unusedVariables false
set_option maxRecDepth 20000
set_option linter.unusedSimpArgs false

set_option maxHeartbeats 4000000 in
theorem readEnd_cr {w : World} {p : Nat} {x y z : Value} {Z : Nat → Prop} {most n due : Int} {part data : List UInt8} {fs : Int} {rest : List UInt8} {wr nx : Int} (H : ChAt w p x y z Z ⟨nx, most, n, due, [], data, fs, rest, wr⟩) (s : ByteArray) (hs : s.size ≤ 549755813888)  {r : List UInt8} (hs2 : ls s = 13 :: r) :
    Calls Tryz.prog 62 #[.pointer (some ⟨p, 0, none⟩), .string s] w fun e w' => e = .returned (.tuple #[.string (tx r), .int .i64 0]) ∧ Post w w' p Z ⟨nx, most, n, due, [13], data, fs, rest, wr⟩ := by
  have hz : s.size = r.length + 1 := by rw [← ls_len, hs2]; rfl
  have hlt : 0 < s.size := by omega
  have hb0 : bt s 0 = ((13 : UInt8).toNat : Int) := by
    obtain ⟨c, gc, ec, _⟩ := get_ls hlt
    rw [hs2] at gc
    rw [ec, Option.some.inj gc]
  have hg := get_bt s
  have eB : s.extract 1 s.size = tx r := ls_inj (by rw [ls_extract, ls_tx, hs2, List.take_of_length_le (by simp; omega)]; rfl)
  have EB := Lib.hid eB
  have i1 : (1 : Int) ≤ (s.size : Int) := by omega
  have i0 : (0 : Int) < (s.size : Int) := by omega
  obtain ⟨ox, kx, ex, _, _⟩ := H.px.form
  simp only [List.length_nil, List.length_cons, Nat.zero_add] at ex
  subst ex
  clear hs2 eB hz
  have hp := fun w => hasPre_one 13 w
  rw [show ((13 : UInt8) == 13) = true from rfl] at hp
  have ne : ((tx [13]).toList == [13, 10]) = false := by rw [ls_toList, ls_tx, beq_eq_false_iff_ne]; intro e; simp at e
  go_enter Tryz.func62, Tryz.ntmps62
  go_upto_region 1 with (fail)
  have H0 := H.drew
  have B0 : Goes w w.drew Z Z := Goes.of_below ((Below.refl _ _).drew) Z
  have d4 := H0.c4
  refine wp_region_any (by kernel_rfl) ?_
  change wpAny _ _ _ _ _ _ _ w.drew
  refine any_take 0 (.pointer (some ⟨p, 0, none⟩)) rfl (by kernel_rfl) (by kernel_rfl) (by kernel_rfl) (fun _ _ _ h => h) (Or.inl ⟨by rfl, fun x => by go_simp⟩) (fun K hK => ?_)
  go_simp
  refine hK _ _ ?_
  clear hK K
  refine any_take 1 (.pointer (some ⟨p, 0, none⟩)) rfl (by kernel_rfl) (by kernel_rfl) (by kernel_rfl) (fun _ _ _ h => h) (Or.inl ⟨by rfl, fun x => by go_simp⟩) (fun K hK => ?_)
  go_simp
  refine hK _ _ ?_
  clear hK K
  refine any_take 2 (.pointer (some ⟨p, 0, none⟩)) rfl (by kernel_rfl) (by kernel_rfl) (by kernel_rfl) (fun _ _ _ h => h) (Or.inl ⟨by rfl, fun x => by go_simp⟩) (fun K hK => ?_)
  go_simp
  refine hK _ _ ?_
  clear hK K
  refine any_take 3 (.pointer (some ⟨p, 4, none⟩)) rfl (by kernel_rfl) (by kernel_rfl) (by kernel_rfl) (fun _ _ _ h => h) (Or.inl ⟨by rfl, fun x => by go_simp⟩) (fun K hK => ?_)
  go_simp
  refine hK _ _ ?_
  clear hK K
  refine any_take 5 (.string s) rfl (by kernel_rfl) (by kernel_rfl) (by kernel_rfl) (fun _ _ _ h => h) (Or.inl ⟨by rfl, fun x => by go_simp⟩) (fun K hK => ?_)
  go_simp
  refine hK _ _ ?_
  clear hK K
  refine any_take 6 (.int .u8 (((13 : UInt8).toNat : Nat) : Int)) rfl (by kernel_rfl) (by kernel_rfl) (by kernel_rfl) (fun _ _ _ h => h) (Or.inl ⟨by rfl, fun x => by go_simp⟩) (fun K hK => ?_)
  go_simp
  refine hK _ _ ?_
  clear hK K
  refine any_two 4 7 (by kernel_rfl) (fun K hK => wpOp_in rfl rfl ?_) (fun K hK => wpOp_in rfl rfl ?_)
  · go_simp
    refine hK _ _ ?_
    clear hK K
    refine any_one 7 (by kernel_rfl) (fun K hK => wpOp_in rfl rfl ?_)
    go_simp
    refine hK _ _ ?_
    clear hK K
    have H1 := H0.old (w' := w.drew.alloc (.cells #[.int .u8 (((13 : UInt8).toNat : Nat) : Int)] 5)) ((Below.refl _ _).alloc (Nat.le_refl _) _)
    have B1 : Goes w (w.drew.alloc (.cells #[.int .u8 (((13 : UInt8).toNat : Nat) : Int)] 5)) Z Z := B0.trans (Goes.of_below ((Below.refl _ _).alloc (Nat.le_refl _) _) Z)
    have hB := Go.heap_alloc_new w.drew (.cells #[.int .u8 (((13 : UInt8).toNat : Nat) : Int)] 5)
    have d4 := H1.c4
    refine any_one 8 (by kernel_rfl) (fun K hK => wpOp_in rfl rfl ?_)
    refine wp_app1 H1.px (by simp) (B := w.heap.size) (b := 13) hB _ _ rfl rfl rfl ?_
    intro o4 m4 k4 w4 r4 g4 l4
    have hp4 := H1.st.same (g4.block p H1.st.lt fun e => row_ne H1.px H1.st e.symm rfl)
    have d4 := hp4.cell 4
    have q4 := hp4.frozen 4
    obtain ⟨H2, G2⟩ := H1.rowX g4 r4 l4
    clear hp4 r4 g4 l4
    refine hK _ _ ?_
    clear hK K
    refine any_take 9 (.pointer (some ⟨p, 0, none⟩)) rfl (by kernel_rfl) (by kernel_rfl) (by kernel_rfl) (fun _ _ _ h => h) (Or.inl ⟨by rfl, fun x => by go_simp⟩) (fun K hK => ?_)
    go_simp
    refine hK _ _ ?_
    clear hK K
    refine any_take 10 (.pointer (some ⟨p, 4, none⟩)) rfl (by kernel_rfl) (by kernel_rfl) (by kernel_rfl) (fun _ _ _ h => h) (Or.inl ⟨by rfl, fun x => by go_simp⟩) (fun K hK => ?_)
    go_simp
    refine hK _ _ ?_
    clear hK K
    refine any_one 11 (by kernel_rfl) (fun K hK => wpOp_in rfl rfl ?_)
    go_simp
    refine hK _ _ ?_
    clear hK K
    refine wpAny_done (by kernel_rfl) ?_ _
    generalize w4.setCell ⟨p, 4, none⟩ (.slice o4 m4 k4) = w5 at *
    generalize Zn Z (.slice o4 m4 k4) = Z1 at *
    have GA := B1.trans G2
    have H2b : ChAt w5 p (.slice o4 m4 k4) y z Z1 ⟨nx, most, n, due, [13], data, fs, rest, wr⟩ := H2
    clear G2 B1 H1 H0 B0 hB H2 d4
    have d4 := H2b.c4
    have f4 := H2b.fz 4
    have cv := H2b.px.text
    simp only at cv
    generalize tx [13] = P at *
    go_wp2_with fail
    refine (hp _).mono ?_
    rintro e w' ⟨rfl, rfl⟩
    clear hp
    go_wp2
    go_ret2
    exact ⟨by first | rfl | (rw [← EB.out]; rfl), _, ⟨_, _, _, H2b⟩, GA⟩
  · go_simp
    refine hK _ _ ?_
    clear hK K
    have H1 := H0.old (w' := w.drew.alloc (.cells #[.int .u8 (((13 : UInt8).toNat : Nat) : Int)] 5)) ((Below.refl _ _).alloc (Nat.le_refl _) _)
    have B1 : Goes w (w.drew.alloc (.cells #[.int .u8 (((13 : UInt8).toNat : Nat) : Int)] 5)) Z Z := B0.trans (Goes.of_below ((Below.refl _ _).alloc (Nat.le_refl _) _) Z)
    have hB := Go.heap_alloc_new w.drew (.cells #[.int .u8 (((13 : UInt8).toNat : Nat) : Int)] 5)
    have d4 := H1.c4
    change wpAny _ _ _ _ _ _ _ (w.drew.alloc (.cells #[.int .u8 (((13 : UInt8).toNat : Nat) : Int)] 5))
    generalize w.drew.alloc (.cells #[.int .u8 (((13 : UInt8).toNat : Nat) : Int)] 5) = w9 at H1 B1 hB d4 ⊢
    refine any_one 4 (by kernel_rfl) (fun K hK => wpOp_in rfl rfl ?_)
    go_simp
    refine hK _ _ ?_
    clear hK K
    refine any_one 8 (by kernel_rfl) (fun K hK => wpOp_in rfl rfl ?_)
    refine wp_app1 H1.px (by simp) (B := w.heap.size) (b := 13) hB _ _ rfl rfl rfl ?_
    intro o4 m4 k4 w4 r4 g4 l4
    have hp4 := H1.st.same (g4.block p H1.st.lt fun e => row_ne H1.px H1.st e.symm rfl)
    have d4 := hp4.cell 4
    have q4 := hp4.frozen 4
    obtain ⟨H2, G2⟩ := H1.rowX g4 r4 l4
    clear hp4 r4 g4 l4
    refine hK _ _ ?_
    clear hK K
    refine any_take 9 (.pointer (some ⟨p, 0, none⟩)) rfl (by kernel_rfl) (by kernel_rfl) (by kernel_rfl) (fun _ _ _ h => h) (Or.inl ⟨by rfl, fun x => by go_simp⟩) (fun K hK => ?_)
    go_simp
    refine hK _ _ ?_
    clear hK K
    refine any_take 10 (.pointer (some ⟨p, 4, none⟩)) rfl (by kernel_rfl) (by kernel_rfl) (by kernel_rfl) (fun _ _ _ h => h) (Or.inl ⟨by rfl, fun x => by go_simp⟩) (fun K hK => ?_)
    go_simp
    refine hK _ _ ?_
    clear hK K
    refine any_one 11 (by kernel_rfl) (fun K hK => wpOp_in rfl rfl ?_)
    go_simp
    refine hK _ _ ?_
    clear hK K
    refine wpAny_done (by kernel_rfl) ?_ _
    generalize w4.setCell ⟨p, 4, none⟩ (.slice o4 m4 k4) = w5 at *
    generalize Zn Z (.slice o4 m4 k4) = Z1 at *
    have GA := B1.trans G2
    have H2b : ChAt w5 p (.slice o4 m4 k4) y z Z1 ⟨nx, most, n, due, [13], data, fs, rest, wr⟩ := H2
    clear G2 B1 H1 H0 B0 hB H2 d4
    have d4 := H2b.c4
    have f4 := H2b.fz 4
    have cv := H2b.px.text
    simp only at cv
    generalize tx [13] = P at *
    go_wp2_with fail
    refine (hp _).mono ?_
    rintro e w' ⟨rfl, rfl⟩
    clear hp
    go_wp2
    go_ret2
    exact ⟨by first | rfl | (rw [← EB.out]; rfl), _, ⟨_, _, _, H2b⟩, GA⟩
set_option maxHeartbeats 4000000 in
theorem readEnd_lf {w : World} {p : Nat} {x y z : Value} {Z : Nat → Prop} {most n due : Int} {part data : List UInt8} {fs : Int} {rest : List UInt8} {wr nx : Int} (H : ChAt w p x y z Z ⟨nx, most, n, due, [13], data, fs, rest, wr⟩) (s : ByteArray) (hs : s.size ≤ 549755813888)  {r : List UInt8} (hs2 : ls s = 10 :: r) :
    Calls Tryz.prog 62 #[.pointer (some ⟨p, 0, none⟩), .string s] w fun e w' => e = .returned (.tuple #[.string (tx r), .int .i64 0]) ∧ Post w w' p Z ⟨0, most, n, due, [], data, fs, rest, wr⟩ := by
  have hz : s.size = r.length + 1 := by rw [← ls_len, hs2]; rfl
  have hlt : 0 < s.size := by omega
  have hb0 : bt s 0 = ((10 : UInt8).toNat : Int) := by
    obtain ⟨c, gc, ec, _⟩ := get_ls hlt
    rw [hs2] at gc
    rw [ec, Option.some.inj gc]
  have hg := get_bt s
  have eB : s.extract 1 s.size = tx r := ls_inj (by rw [ls_extract, ls_tx, hs2, List.take_of_length_le (by simp; omega)]; rfl)
  have EB := Lib.hid eB
  have i1 : (1 : Int) ≤ (s.size : Int) := by omega
  have i0 : (0 : Int) < (s.size : Int) := by omega
  obtain ⟨ox, kx, ex, _, _⟩ := H.px.form
  simp only [List.length_nil, List.length_cons, Nat.zero_add] at ex
  subst ex
  clear hs2 eB hz
  have ne : ((tx [13, 10]).toList == [13, 10]) = true := by rw [ls_toList, ls_tx]; rfl
  go_enter Tryz.func62, Tryz.ntmps62
  go_upto_region 1 with (fail)
  have H0 := H.drew
  have B0 : Goes w w.drew Z Z := Goes.of_below ((Below.refl _ _).drew) Z
  have d4 := H0.c4
  refine wp_region_any (by kernel_rfl) ?_
  change wpAny _ _ _ _ _ _ _ w.drew
  refine any_take 0 (.pointer (some ⟨p, 0, none⟩)) rfl (by kernel_rfl) (by kernel_rfl) (by kernel_rfl) (fun _ _ _ h => h) (Or.inl ⟨by rfl, fun x => by go_simp⟩) (fun K hK => ?_)
  go_simp
  refine hK _ _ ?_
  clear hK K
  refine any_take 1 (.pointer (some ⟨p, 0, none⟩)) rfl (by kernel_rfl) (by kernel_rfl) (by kernel_rfl) (fun _ _ _ h => h) (Or.inl ⟨by rfl, fun x => by go_simp⟩) (fun K hK => ?_)
  go_simp
  refine hK _ _ ?_
  clear hK K
  refine any_take 2 (.pointer (some ⟨p, 0, none⟩)) rfl (by kernel_rfl) (by kernel_rfl) (by kernel_rfl) (fun _ _ _ h => h) (Or.inl ⟨by rfl, fun x => by go_simp⟩) (fun K hK => ?_)
  go_simp
  refine hK _ _ ?_
  clear hK K
  refine any_take 3 (.pointer (some ⟨p, 4, none⟩)) rfl (by kernel_rfl) (by kernel_rfl) (by kernel_rfl) (fun _ _ _ h => h) (Or.inl ⟨by rfl, fun x => by go_simp⟩) (fun K hK => ?_)
  go_simp
  refine hK _ _ ?_
  clear hK K
  refine any_take 5 (.string s) rfl (by kernel_rfl) (by kernel_rfl) (by kernel_rfl) (fun _ _ _ h => h) (Or.inl ⟨by rfl, fun x => by go_simp⟩) (fun K hK => ?_)
  go_simp
  refine hK _ _ ?_
  clear hK K
  refine any_take 6 (.int .u8 (((10 : UInt8).toNat : Nat) : Int)) rfl (by kernel_rfl) (by kernel_rfl) (by kernel_rfl) (fun _ _ _ h => h) (Or.inl ⟨by rfl, fun x => by go_simp⟩) (fun K hK => ?_)
  go_simp
  refine hK _ _ ?_
  clear hK K
  refine any_two 4 7 (by kernel_rfl) (fun K hK => wpOp_in rfl rfl ?_) (fun K hK => wpOp_in rfl rfl ?_)
  · go_simp
    refine hK _ _ ?_
    clear hK K
    refine any_one 7 (by kernel_rfl) (fun K hK => wpOp_in rfl rfl ?_)
    go_simp
    refine hK _ _ ?_
    clear hK K
    have H1 := H0.old (w' := w.drew.alloc (.cells #[.int .u8 (((10 : UInt8).toNat : Nat) : Int)] 5)) ((Below.refl _ _).alloc (Nat.le_refl _) _)
    have B1 : Goes w (w.drew.alloc (.cells #[.int .u8 (((10 : UInt8).toNat : Nat) : Int)] 5)) Z Z := B0.trans (Goes.of_below ((Below.refl _ _).alloc (Nat.le_refl _) _) Z)
    have hB := Go.heap_alloc_new w.drew (.cells #[.int .u8 (((10 : UInt8).toNat : Nat) : Int)] 5)
    have d4 := H1.c4
    refine any_one 8 (by kernel_rfl) (fun K hK => wpOp_in rfl rfl ?_)
    refine wp_app1 H1.px (by simp) (B := w.heap.size) (b := 10) hB _ _ rfl rfl rfl ?_
    intro o4 m4 k4 w4 r4 g4 l4
    have hp4 := H1.st.same (g4.block p H1.st.lt fun e => row_ne H1.px H1.st e.symm rfl)
    have d4 := hp4.cell 4
    have q4 := hp4.frozen 4
    obtain ⟨H2, G2⟩ := H1.rowX g4 r4 l4
    clear hp4 r4 g4 l4
    refine hK _ _ ?_
    clear hK K
    refine any_take 9 (.pointer (some ⟨p, 0, none⟩)) rfl (by kernel_rfl) (by kernel_rfl) (by kernel_rfl) (fun _ _ _ h => h) (Or.inl ⟨by rfl, fun x => by go_simp⟩) (fun K hK => ?_)
    go_simp
    refine hK _ _ ?_
    clear hK K
    refine any_take 10 (.pointer (some ⟨p, 4, none⟩)) rfl (by kernel_rfl) (by kernel_rfl) (by kernel_rfl) (fun _ _ _ h => h) (Or.inl ⟨by rfl, fun x => by go_simp⟩) (fun K hK => ?_)
    go_simp
    refine hK _ _ ?_
    clear hK K
    refine any_one 11 (by kernel_rfl) (fun K hK => wpOp_in rfl rfl ?_)
    go_simp
    refine hK _ _ ?_
    clear hK K
    refine wpAny_done (by kernel_rfl) ?_ _
    generalize w4.setCell ⟨p, 4, none⟩ (.slice o4 m4 k4) = w5 at *
    generalize Zn Z (.slice o4 m4 k4) = Z1 at *
    have GA := B1.trans G2
    have H2b : ChAt w5 p (.slice o4 m4 k4) y z Z1 ⟨nx, most, n, due, [13, 10], data, fs, rest, wr⟩ := H2
    clear G2 B1 H1 H0 B0 hB H2 d4
    have d4 := H2b.c4
    have f4 := H2b.fz 4
    have cv := H2b.px.text
    simp only at cv
    obtain ⟨H3, G3⟩ := H2b.cutX
    simp only at H3
    generalize tx [13, 10] = P at *
    go_upto_region 5 with (fail)
    generalize w5.setCell ⟨p, 4, none⟩ (.slice o4 0 k4) = w6 at H3 G3 ⊢
    have d0 := H3.c0
    have f0 := H3.fz 0
    simp only at d0
    obtain ⟨H4, G4⟩ := H3.num 0 (.int .i64 0) (c' := ⟨0, most, n, due, [], data, fs, rest, wr⟩) rfl rfl rfl rfl
    go_wp2
    go_ret2
    exact ⟨by first | rfl | (rw [← EB.out]; rfl), _, ⟨_, _, _, H4⟩, GA.trans (G3.trans G4)⟩
  · go_simp
    refine hK _ _ ?_
    clear hK K
    have H1 := H0.old (w' := w.drew.alloc (.cells #[.int .u8 (((10 : UInt8).toNat : Nat) : Int)] 5)) ((Below.refl _ _).alloc (Nat.le_refl _) _)
    have B1 : Goes w (w.drew.alloc (.cells #[.int .u8 (((10 : UInt8).toNat : Nat) : Int)] 5)) Z Z := B0.trans (Goes.of_below ((Below.refl _ _).alloc (Nat.le_refl _) _) Z)
    have hB := Go.heap_alloc_new w.drew (.cells #[.int .u8 (((10 : UInt8).toNat : Nat) : Int)] 5)
    have d4 := H1.c4
    change wpAny _ _ _ _ _ _ _ (w.drew.alloc (.cells #[.int .u8 (((10 : UInt8).toNat : Nat) : Int)] 5))
    generalize w.drew.alloc (.cells #[.int .u8 (((10 : UInt8).toNat : Nat) : Int)] 5) = w9 at H1 B1 hB d4 ⊢
    refine any_one 4 (by kernel_rfl) (fun K hK => wpOp_in rfl rfl ?_)
    go_simp
    refine hK _ _ ?_
    clear hK K
    refine any_one 8 (by kernel_rfl) (fun K hK => wpOp_in rfl rfl ?_)
    refine wp_app1 H1.px (by simp) (B := w.heap.size) (b := 10) hB _ _ rfl rfl rfl ?_
    intro o4 m4 k4 w4 r4 g4 l4
    have hp4 := H1.st.same (g4.block p H1.st.lt fun e => row_ne H1.px H1.st e.symm rfl)
    have d4 := hp4.cell 4
    have q4 := hp4.frozen 4
    obtain ⟨H2, G2⟩ := H1.rowX g4 r4 l4
    clear hp4 r4 g4 l4
    refine hK _ _ ?_
    clear hK K
    refine any_take 9 (.pointer (some ⟨p, 0, none⟩)) rfl (by kernel_rfl) (by kernel_rfl) (by kernel_rfl) (fun _ _ _ h => h) (Or.inl ⟨by rfl, fun x => by go_simp⟩) (fun K hK => ?_)
    go_simp
    refine hK _ _ ?_
    clear hK K
    refine any_take 10 (.pointer (some ⟨p, 4, none⟩)) rfl (by kernel_rfl) (by kernel_rfl) (by kernel_rfl) (fun _ _ _ h => h) (Or.inl ⟨by rfl, fun x => by go_simp⟩) (fun K hK => ?_)
    go_simp
    refine hK _ _ ?_
    clear hK K
    refine any_one 11 (by kernel_rfl) (fun K hK => wpOp_in rfl rfl ?_)
    go_simp
    refine hK _ _ ?_
    clear hK K
    refine wpAny_done (by kernel_rfl) ?_ _
    generalize w4.setCell ⟨p, 4, none⟩ (.slice o4 m4 k4) = w5 at *
    generalize Zn Z (.slice o4 m4 k4) = Z1 at *
    have GA := B1.trans G2
    have H2b : ChAt w5 p (.slice o4 m4 k4) y z Z1 ⟨nx, most, n, due, [13, 10], data, fs, rest, wr⟩ := H2
    clear G2 B1 H1 H0 B0 hB H2 d4
    have d4 := H2b.c4
    have f4 := H2b.fz 4
    have cv := H2b.px.text
    simp only at cv
    obtain ⟨H3, G3⟩ := H2b.cutX
    simp only at H3
    generalize tx [13, 10] = P at *
    go_upto_region 5 with (fail)
    generalize w5.setCell ⟨p, 4, none⟩ (.slice o4 0 k4) = w6 at H3 G3 ⊢
    have d0 := H3.c0
    have f0 := H3.fz 0
    simp only at d0
    obtain ⟨H4, G4⟩ := H3.num 0 (.int .i64 0) (c' := ⟨0, most, n, due, [], data, fs, rest, wr⟩) rfl rfl rfl rfl
    go_wp2
    go_ret2
    exact ⟨by first | rfl | (rw [← EB.out]; rfl), _, ⟨_, _, _, H4⟩, GA.trans (G3.trans G4)⟩
set_option maxHeartbeats 4000000 in
theorem readEnd_bad1 {w : World} {p : Nat} {x y z : Value} {Z : Nat → Prop} {most n due : Int} {part data : List UInt8} {fs : Int} {rest : List UInt8} {wr nx : Int} (H : ChAt w p x y z Z ⟨nx, most, n, due, [], data, fs, rest, wr⟩) (s : ByteArray) (hs : s.size ≤ 549755813888) {b : UInt8} (hb : b ≠ 13) {r : List UInt8} (hs2 : ls s = b :: r) :
    Calls Tryz.prog 62 #[.pointer (some ⟨p, 0, none⟩), .string s] w fun e w' => e = .returned (.tuple #[.string ⟨#[]⟩, .int .i64 3]) ∧ Post w w' p Z ⟨nx, most, n, due, [b], data, fs, rest, wr⟩ := by
  have hz : s.size = r.length + 1 := by rw [← ls_len, hs2]; rfl
  have hlt : 0 < s.size := by omega
  have hb0 : bt s 0 = ((b : UInt8).toNat : Int) := by
    obtain ⟨c, gc, ec, _⟩ := get_ls hlt
    rw [hs2] at gc
    rw [ec, Option.some.inj gc]
  have hg := get_bt s
  have eB : s.extract 1 s.size = tx r := ls_inj (by rw [ls_extract, ls_tx, hs2, List.take_of_length_le (by simp; omega)]; rfl)
  have EB := Lib.hid eB
  have i1 : (1 : Int) ≤ (s.size : Int) := by omega
  have i0 : (0 : Int) < (s.size : Int) := by omega
  obtain ⟨ox, kx, ex, _, _⟩ := H.px.form
  simp only [List.length_nil, List.length_cons, Nat.zero_add] at ex
  subst ex
  clear hs2 eB hz
  have hp := fun w => hasPre_one b w
  rw [show (b == 13) = false from beq_eq_false_iff_ne.2 hb] at hp
  have ne : ((tx [b]).toList == [13, 10]) = false := by rw [ls_toList, ls_tx, beq_eq_false_iff_ne]; intro e; simp at e
  clear hb
  go_enter Tryz.func62, Tryz.ntmps62
  go_upto_region 1 with (fail)
  have H0 := H.drew
  have B0 : Goes w w.drew Z Z := Goes.of_below ((Below.refl _ _).drew) Z
  have d4 := H0.c4
  refine wp_region_any (by kernel_rfl) ?_
  change wpAny _ _ _ _ _ _ _ w.drew
  refine any_take 0 (.pointer (some ⟨p, 0, none⟩)) rfl (by kernel_rfl) (by kernel_rfl) (by kernel_rfl) (fun _ _ _ h => h) (Or.inl ⟨by rfl, fun x => by go_simp⟩) (fun K hK => ?_)
  go_simp
  refine hK _ _ ?_
  clear hK K
  refine any_take 1 (.pointer (some ⟨p, 0, none⟩)) rfl (by kernel_rfl) (by kernel_rfl) (by kernel_rfl) (fun _ _ _ h => h) (Or.inl ⟨by rfl, fun x => by go_simp⟩) (fun K hK => ?_)
  go_simp
  refine hK _ _ ?_
  clear hK K
  refine any_take 2 (.pointer (some ⟨p, 0, none⟩)) rfl (by kernel_rfl) (by kernel_rfl) (by kernel_rfl) (fun _ _ _ h => h) (Or.inl ⟨by rfl, fun x => by go_simp⟩) (fun K hK => ?_)
  go_simp
  refine hK _ _ ?_
  clear hK K
  refine any_take 3 (.pointer (some ⟨p, 4, none⟩)) rfl (by kernel_rfl) (by kernel_rfl) (by kernel_rfl) (fun _ _ _ h => h) (Or.inl ⟨by rfl, fun x => by go_simp⟩) (fun K hK => ?_)
  go_simp
  refine hK _ _ ?_
  clear hK K
  refine any_take 5 (.string s) rfl (by kernel_rfl) (by kernel_rfl) (by kernel_rfl) (fun _ _ _ h => h) (Or.inl ⟨by rfl, fun x => by go_simp⟩) (fun K hK => ?_)
  go_simp
  refine hK _ _ ?_
  clear hK K
  refine any_take 6 (.int .u8 (((b : UInt8).toNat : Nat) : Int)) rfl (by kernel_rfl) (by kernel_rfl) (by kernel_rfl) (fun _ _ _ h => h) (Or.inl ⟨by rfl, fun x => by go_simp⟩) (fun K hK => ?_)
  go_simp
  refine hK _ _ ?_
  clear hK K
  refine any_two 4 7 (by kernel_rfl) (fun K hK => wpOp_in rfl rfl ?_) (fun K hK => wpOp_in rfl rfl ?_)
  · go_simp
    refine hK _ _ ?_
    clear hK K
    refine any_one 7 (by kernel_rfl) (fun K hK => wpOp_in rfl rfl ?_)
    go_simp
    refine hK _ _ ?_
    clear hK K
    have H1 := H0.old (w' := w.drew.alloc (.cells #[.int .u8 (((b : UInt8).toNat : Nat) : Int)] 5)) ((Below.refl _ _).alloc (Nat.le_refl _) _)
    have B1 : Goes w (w.drew.alloc (.cells #[.int .u8 (((b : UInt8).toNat : Nat) : Int)] 5)) Z Z := B0.trans (Goes.of_below ((Below.refl _ _).alloc (Nat.le_refl _) _) Z)
    have hB := Go.heap_alloc_new w.drew (.cells #[.int .u8 (((b : UInt8).toNat : Nat) : Int)] 5)
    have d4 := H1.c4
    refine any_one 8 (by kernel_rfl) (fun K hK => wpOp_in rfl rfl ?_)
    refine wp_app1 H1.px (by simp) (B := w.heap.size) (b := b) hB _ _ rfl rfl rfl ?_
    intro o4 m4 k4 w4 r4 g4 l4
    have hp4 := H1.st.same (g4.block p H1.st.lt fun e => row_ne H1.px H1.st e.symm rfl)
    have d4 := hp4.cell 4
    have q4 := hp4.frozen 4
    obtain ⟨H2, G2⟩ := H1.rowX g4 r4 l4
    clear hp4 r4 g4 l4
    refine hK _ _ ?_
    clear hK K
    refine any_take 9 (.pointer (some ⟨p, 0, none⟩)) rfl (by kernel_rfl) (by kernel_rfl) (by kernel_rfl) (fun _ _ _ h => h) (Or.inl ⟨by rfl, fun x => by go_simp⟩) (fun K hK => ?_)
    go_simp
    refine hK _ _ ?_
    clear hK K
    refine any_take 10 (.pointer (some ⟨p, 4, none⟩)) rfl (by kernel_rfl) (by kernel_rfl) (by kernel_rfl) (fun _ _ _ h => h) (Or.inl ⟨by rfl, fun x => by go_simp⟩) (fun K hK => ?_)
    go_simp
    refine hK _ _ ?_
    clear hK K
    refine any_one 11 (by kernel_rfl) (fun K hK => wpOp_in rfl rfl ?_)
    go_simp
    refine hK _ _ ?_
    clear hK K
    refine wpAny_done (by kernel_rfl) ?_ _
    generalize w4.setCell ⟨p, 4, none⟩ (.slice o4 m4 k4) = w5 at *
    generalize Zn Z (.slice o4 m4 k4) = Z1 at *
    have GA := B1.trans G2
    have H2b : ChAt w5 p (.slice o4 m4 k4) y z Z1 ⟨nx, most, n, due, [b], data, fs, rest, wr⟩ := H2
    clear G2 B1 H1 H0 B0 hB H2 d4
    have d4 := H2b.c4
    have f4 := H2b.fz 4
    have cv := H2b.px.text
    simp only at cv
    generalize tx [b] = P at *
    go_wp2_with fail
    refine (hp _).mono ?_
    rintro e w' ⟨rfl, rfl⟩
    clear hp
    go_wp2
    go_ret2
    exact ⟨by first | rfl | (rw [← EB.out]; rfl), _, ⟨_, _, _, H2b⟩, GA⟩
  · go_simp
    refine hK _ _ ?_
    clear hK K
    have H1 := H0.old (w' := w.drew.alloc (.cells #[.int .u8 (((b : UInt8).toNat : Nat) : Int)] 5)) ((Below.refl _ _).alloc (Nat.le_refl _) _)
    have B1 : Goes w (w.drew.alloc (.cells #[.int .u8 (((b : UInt8).toNat : Nat) : Int)] 5)) Z Z := B0.trans (Goes.of_below ((Below.refl _ _).alloc (Nat.le_refl _) _) Z)
    have hB := Go.heap_alloc_new w.drew (.cells #[.int .u8 (((b : UInt8).toNat : Nat) : Int)] 5)
    have d4 := H1.c4
    change wpAny _ _ _ _ _ _ _ (w.drew.alloc (.cells #[.int .u8 (((b : UInt8).toNat : Nat) : Int)] 5))
    generalize w.drew.alloc (.cells #[.int .u8 (((b : UInt8).toNat : Nat) : Int)] 5) = w9 at H1 B1 hB d4 ⊢
    refine any_one 4 (by kernel_rfl) (fun K hK => wpOp_in rfl rfl ?_)
    go_simp
    refine hK _ _ ?_
    clear hK K
    refine any_one 8 (by kernel_rfl) (fun K hK => wpOp_in rfl rfl ?_)
    refine wp_app1 H1.px (by simp) (B := w.heap.size) (b := b) hB _ _ rfl rfl rfl ?_
    intro o4 m4 k4 w4 r4 g4 l4
    have hp4 := H1.st.same (g4.block p H1.st.lt fun e => row_ne H1.px H1.st e.symm rfl)
    have d4 := hp4.cell 4
    have q4 := hp4.frozen 4
    obtain ⟨H2, G2⟩ := H1.rowX g4 r4 l4
    clear hp4 r4 g4 l4
    refine hK _ _ ?_
    clear hK K
    refine any_take 9 (.pointer (some ⟨p, 0, none⟩)) rfl (by kernel_rfl) (by kernel_rfl) (by kernel_rfl) (fun _ _ _ h => h) (Or.inl ⟨by rfl, fun x => by go_simp⟩) (fun K hK => ?_)
    go_simp
    refine hK _ _ ?_
    clear hK K
    refine any_take 10 (.pointer (some ⟨p, 4, none⟩)) rfl (by kernel_rfl) (by kernel_rfl) (by kernel_rfl) (fun _ _ _ h => h) (Or.inl ⟨by rfl, fun x => by go_simp⟩) (fun K hK => ?_)
    go_simp
    refine hK _ _ ?_
    clear hK K
    refine any_one 11 (by kernel_rfl) (fun K hK => wpOp_in rfl rfl ?_)
    go_simp
    refine hK _ _ ?_
    clear hK K
    refine wpAny_done (by kernel_rfl) ?_ _
    generalize w4.setCell ⟨p, 4, none⟩ (.slice o4 m4 k4) = w5 at *
    generalize Zn Z (.slice o4 m4 k4) = Z1 at *
    have GA := B1.trans G2
    have H2b : ChAt w5 p (.slice o4 m4 k4) y z Z1 ⟨nx, most, n, due, [b], data, fs, rest, wr⟩ := H2
    clear G2 B1 H1 H0 B0 hB H2 d4
    have d4 := H2b.c4
    have f4 := H2b.fz 4
    have cv := H2b.px.text
    simp only at cv
    generalize tx [b] = P at *
    go_wp2_with fail
    refine (hp _).mono ?_
    rintro e w' ⟨rfl, rfl⟩
    clear hp
    go_wp2
    go_ret2
    exact ⟨by first | rfl | (rw [← EB.out]; rfl), _, ⟨_, _, _, H2b⟩, GA⟩
set_option maxHeartbeats 4000000 in
theorem readEnd_bad2 {w : World} {p : Nat} {x y z : Value} {Z : Nat → Prop} {most n due : Int} {part data : List UInt8} {fs : Int} {rest : List UInt8} {wr nx : Int} (H : ChAt w p x y z Z ⟨nx, most, n, due, [13], data, fs, rest, wr⟩) (s : ByteArray) (hs : s.size ≤ 549755813888) {b : UInt8} (hb : b ≠ 10) {r : List UInt8} (hs2 : ls s = b :: r) :
    Calls Tryz.prog 62 #[.pointer (some ⟨p, 0, none⟩), .string s] w fun e w' => e = .returned (.tuple #[.string ⟨#[]⟩, .int .i64 3]) ∧ Post w w' p Z ⟨nx, most, n, due, [13, b], data, fs, rest, wr⟩ := by
  have hz : s.size = r.length + 1 := by rw [← ls_len, hs2]; rfl
  have hlt : 0 < s.size := by omega
  have hb0 : bt s 0 = ((b : UInt8).toNat : Int) := by
    obtain ⟨c, gc, ec, _⟩ := get_ls hlt
    rw [hs2] at gc
    rw [ec, Option.some.inj gc]
  have hg := get_bt s
  have eB : s.extract 1 s.size = tx r := ls_inj (by rw [ls_extract, ls_tx, hs2, List.take_of_length_le (by simp; omega)]; rfl)
  have EB := Lib.hid eB
  have i1 : (1 : Int) ≤ (s.size : Int) := by omega
  have i0 : (0 : Int) < (s.size : Int) := by omega
  obtain ⟨ox, kx, ex, _, _⟩ := H.px.form
  simp only [List.length_nil, List.length_cons, Nat.zero_add] at ex
  subst ex
  clear hs2 eB hz
  have hp := fun w => hasPre_two b hb w
  have ne : ((tx [13, b]).toList == [13, 10]) = false := by rw [ls_toList, ls_tx, beq_eq_false_iff_ne]; intro e; simp at e; exact hb e
  clear hb
  go_enter Tryz.func62, Tryz.ntmps62
  go_upto_region 1 with (fail)
  have H0 := H.drew
  have B0 : Goes w w.drew Z Z := Goes.of_below ((Below.refl _ _).drew) Z
  have d4 := H0.c4
  refine wp_region_any (by kernel_rfl) ?_
  change wpAny _ _ _ _ _ _ _ w.drew
  refine any_take 0 (.pointer (some ⟨p, 0, none⟩)) rfl (by kernel_rfl) (by kernel_rfl) (by kernel_rfl) (fun _ _ _ h => h) (Or.inl ⟨by rfl, fun x => by go_simp⟩) (fun K hK => ?_)
  go_simp
  refine hK _ _ ?_
  clear hK K
  refine any_take 1 (.pointer (some ⟨p, 0, none⟩)) rfl (by kernel_rfl) (by kernel_rfl) (by kernel_rfl) (fun _ _ _ h => h) (Or.inl ⟨by rfl, fun x => by go_simp⟩) (fun K hK => ?_)
  go_simp
  refine hK _ _ ?_
  clear hK K
  refine any_take 2 (.pointer (some ⟨p, 0, none⟩)) rfl (by kernel_rfl) (by kernel_rfl) (by kernel_rfl) (fun _ _ _ h => h) (Or.inl ⟨by rfl, fun x => by go_simp⟩) (fun K hK => ?_)
  go_simp
  refine hK _ _ ?_
  clear hK K
  refine any_take 3 (.pointer (some ⟨p, 4, none⟩)) rfl (by kernel_rfl) (by kernel_rfl) (by kernel_rfl) (fun _ _ _ h => h) (Or.inl ⟨by rfl, fun x => by go_simp⟩) (fun K hK => ?_)
  go_simp
  refine hK _ _ ?_
  clear hK K
  refine any_take 5 (.string s) rfl (by kernel_rfl) (by kernel_rfl) (by kernel_rfl) (fun _ _ _ h => h) (Or.inl ⟨by rfl, fun x => by go_simp⟩) (fun K hK => ?_)
  go_simp
  refine hK _ _ ?_
  clear hK K
  refine any_take 6 (.int .u8 (((b : UInt8).toNat : Nat) : Int)) rfl (by kernel_rfl) (by kernel_rfl) (by kernel_rfl) (fun _ _ _ h => h) (Or.inl ⟨by rfl, fun x => by go_simp⟩) (fun K hK => ?_)
  go_simp
  refine hK _ _ ?_
  clear hK K
  refine any_two 4 7 (by kernel_rfl) (fun K hK => wpOp_in rfl rfl ?_) (fun K hK => wpOp_in rfl rfl ?_)
  · go_simp
    refine hK _ _ ?_
    clear hK K
    refine any_one 7 (by kernel_rfl) (fun K hK => wpOp_in rfl rfl ?_)
    go_simp
    refine hK _ _ ?_
    clear hK K
    have H1 := H0.old (w' := w.drew.alloc (.cells #[.int .u8 (((b : UInt8).toNat : Nat) : Int)] 5)) ((Below.refl _ _).alloc (Nat.le_refl _) _)
    have B1 : Goes w (w.drew.alloc (.cells #[.int .u8 (((b : UInt8).toNat : Nat) : Int)] 5)) Z Z := B0.trans (Goes.of_below ((Below.refl _ _).alloc (Nat.le_refl _) _) Z)
    have hB := Go.heap_alloc_new w.drew (.cells #[.int .u8 (((b : UInt8).toNat : Nat) : Int)] 5)
    have d4 := H1.c4
    refine any_one 8 (by kernel_rfl) (fun K hK => wpOp_in rfl rfl ?_)
    refine wp_app1 H1.px (by simp) (B := w.heap.size) (b := b) hB _ _ rfl rfl rfl ?_
    intro o4 m4 k4 w4 r4 g4 l4
    have hp4 := H1.st.same (g4.block p H1.st.lt fun e => row_ne H1.px H1.st e.symm rfl)
    have d4 := hp4.cell 4
    have q4 := hp4.frozen 4
    obtain ⟨H2, G2⟩ := H1.rowX g4 r4 l4
    clear hp4 r4 g4 l4
    refine hK _ _ ?_
    clear hK K
    refine any_take 9 (.pointer (some ⟨p, 0, none⟩)) rfl (by kernel_rfl) (by kernel_rfl) (by kernel_rfl) (fun _ _ _ h => h) (Or.inl ⟨by rfl, fun x => by go_simp⟩) (fun K hK => ?_)
    go_simp
    refine hK _ _ ?_
    clear hK K
    refine any_take 10 (.pointer (some ⟨p, 4, none⟩)) rfl (by kernel_rfl) (by kernel_rfl) (by kernel_rfl) (fun _ _ _ h => h) (Or.inl ⟨by rfl, fun x => by go_simp⟩) (fun K hK => ?_)
    go_simp
    refine hK _ _ ?_
    clear hK K
    refine any_one 11 (by kernel_rfl) (fun K hK => wpOp_in rfl rfl ?_)
    go_simp
    refine hK _ _ ?_
    clear hK K
    refine wpAny_done (by kernel_rfl) ?_ _
    generalize w4.setCell ⟨p, 4, none⟩ (.slice o4 m4 k4) = w5 at *
    generalize Zn Z (.slice o4 m4 k4) = Z1 at *
    have GA := B1.trans G2
    have H2b : ChAt w5 p (.slice o4 m4 k4) y z Z1 ⟨nx, most, n, due, [13, b], data, fs, rest, wr⟩ := H2
    clear G2 B1 H1 H0 B0 hB H2 d4
    have d4 := H2b.c4
    have f4 := H2b.fz 4
    have cv := H2b.px.text
    simp only at cv
    generalize tx [13, b] = P at *
    go_wp2_with fail
    refine (hp _).mono ?_
    rintro e w' ⟨rfl, rfl⟩
    clear hp
    go_wp2
    go_ret2
    exact ⟨by first | rfl | (rw [← EB.out]; rfl), _, ⟨_, _, _, H2b⟩, GA⟩
  · go_simp
    refine hK _ _ ?_
    clear hK K
    have H1 := H0.old (w' := w.drew.alloc (.cells #[.int .u8 (((b : UInt8).toNat : Nat) : Int)] 5)) ((Below.refl _ _).alloc (Nat.le_refl _) _)
    have B1 : Goes w (w.drew.alloc (.cells #[.int .u8 (((b : UInt8).toNat : Nat) : Int)] 5)) Z Z := B0.trans (Goes.of_below ((Below.refl _ _).alloc (Nat.le_refl _) _) Z)
    have hB := Go.heap_alloc_new w.drew (.cells #[.int .u8 (((b : UInt8).toNat : Nat) : Int)] 5)
    have d4 := H1.c4
    change wpAny _ _ _ _ _ _ _ (w.drew.alloc (.cells #[.int .u8 (((b : UInt8).toNat : Nat) : Int)] 5))
    generalize w.drew.alloc (.cells #[.int .u8 (((b : UInt8).toNat : Nat) : Int)] 5) = w9 at H1 B1 hB d4 ⊢
    refine any_one 4 (by kernel_rfl) (fun K hK => wpOp_in rfl rfl ?_)
    go_simp
    refine hK _ _ ?_
    clear hK K
    refine any_one 8 (by kernel_rfl) (fun K hK => wpOp_in rfl rfl ?_)
    refine wp_app1 H1.px (by simp) (B := w.heap.size) (b := b) hB _ _ rfl rfl rfl ?_
    intro o4 m4 k4 w4 r4 g4 l4
    have hp4 := H1.st.same (g4.block p H1.st.lt fun e => row_ne H1.px H1.st e.symm rfl)
    have d4 := hp4.cell 4
    have q4 := hp4.frozen 4
    obtain ⟨H2, G2⟩ := H1.rowX g4 r4 l4
    clear hp4 r4 g4 l4
    refine hK _ _ ?_
    clear hK K
    refine any_take 9 (.pointer (some ⟨p, 0, none⟩)) rfl (by kernel_rfl) (by kernel_rfl) (by kernel_rfl) (fun _ _ _ h => h) (Or.inl ⟨by rfl, fun x => by go_simp⟩) (fun K hK => ?_)
    go_simp
    refine hK _ _ ?_
    clear hK K
    refine any_take 10 (.pointer (some ⟨p, 4, none⟩)) rfl (by kernel_rfl) (by kernel_rfl) (by kernel_rfl) (fun _ _ _ h => h) (Or.inl ⟨by rfl, fun x => by go_simp⟩) (fun K hK => ?_)
    go_simp
    refine hK _ _ ?_
    clear hK K
    refine any_one 11 (by kernel_rfl) (fun K hK => wpOp_in rfl rfl ?_)
    go_simp
    refine hK _ _ ?_
    clear hK K
    refine wpAny_done (by kernel_rfl) ?_ _
    generalize w4.setCell ⟨p, 4, none⟩ (.slice o4 m4 k4) = w5 at *
    generalize Zn Z (.slice o4 m4 k4) = Z1 at *
    have GA := B1.trans G2
    have H2b : ChAt w5 p (.slice o4 m4 k4) y z Z1 ⟨nx, most, n, due, [13, b], data, fs, rest, wr⟩ := H2
    clear G2 B1 H1 H0 B0 hB H2 d4
    have d4 := H2b.c4
    have f4 := H2b.fz 4
    have cv := H2b.px.text
    simp only at cv
    generalize tx [13, b] = P at *
    go_wp2_with fail
    refine (hp _).mono ?_
    rintro e w' ⟨rfl, rfl⟩
    clear hp
    go_wp2
    go_ret2
    exact ⟨by first | rfl | (rw [← EB.out]; rfl), _, ⟨_, _, _, H2b⟩, GA⟩
end Go.Proofs.YtdldoklkenhopaaGreatDoor.Ch
