/-
  FieldLines, walked: of every text whether it is a token, which field it is, and how a field is written.
-/
import Derived.Test.YtdimjeajgmlfkaaDoorFiRefP
import Derived.Test.YtdimjeajgmlfkaaDoorFiGood
import Derived.Test.YtdimjeajgmlfkaaDoorFiAwake
namespace Go.Proofs.YtdimjeajgmlfkaaDoor.Fi
open Go.RowKit Go.PlainAid
open Hx
set_option linter.unusedVariables false
set_option maxRecDepth 20000
set_option linter.unusedSimpArgs false

structure LnJ (w0 z : World) (B B1 B2 : Nat) (f x : Fd) : Prop where
  a : At z B 23 (fdV f)
  b : At z B1 23 (fdV x)
  c : At z B2 23 (fdV x)
  bel : Below w0.heap.size w0 z
theorem LnJ.below {w0 z y : World} {B B1 B2 : Nat} {f x : Fd} (i : LnJ w0 z B B1 B2 f x) (hb : Below z.heap.size z y) : LnJ w0 y B B1 B2 f x := ⟨i.a.old hb, i.b.old hb, i.c.old hb, i.bel.trans (hb.mono i.bel.size)⟩
theorem LnJ.drew {w0 z : World} {B B1 B2 : Nat} {f x : Fd} (i : LnJ w0 z B B1 B2 f x) : LnJ w0 z.drew B B1 B2 f x := i.below ((Below.refl _ _).drew)
theorem LnJ.c0 {w0 z : World} {B B1 B2 : Nat} {f x : Fd} (i : LnJ w0 z B B1 B2 f x) : z.cell? ⟨B, 0, none⟩ = some (.string f.n) := i.a.cell 0
theorem LnJ.c1 {w0 z : World} {B B1 B2 : Nat} {f x : Fd} (i : LnJ w0 z B B1 B2 f x) : z.cell? ⟨B, 1, none⟩ = some (.string f.v) := i.a.cell 1
theorem lines_big (s : ByteArray) (f : Fd) (w : World) (hs : s.size ≤ 9223372036854775807) (o : f.Ok) (h : 4096 < s.size ∨ 4096 < f.n.size ∨ 4096 < f.v.size) :
    Calls Tryd.prog 3 #[.string s, .agg (fdV f)] w fun e w' => e = .returned (.bool true) ∧ Below w.heap.size w w' := by
  have J := One.new w f
  have o1 := o.n
  have o2 := o.v
  have hc : (4096 : Int) < (s.size : Int) ∨ (¬ (4096 : Int) < (s.size : Int) ∧ (4096 : Int) < (f.n.size : Int)) ∨ (¬ (4096 : Int) < (s.size : Int) ∧ ¬ (4096 : Int) < (f.n.size : Int) ∧ (4096 : Int) < (f.v.size : Int)) := by omega
  clear h
  rcases hc with d1 | ⟨d1, d2⟩ | ⟨d1, d2, d3⟩
  all_goals
    go_enter Tryd.func3, Tryd.ntmps3
    go_upto_region 1 with (fail)
    generalize w.alloc (.cells (fdV f) 23) = X at J ⊢
    generalize w.heap.size = B at J ⊢
    go_wp2_with fail
    refine (awake_any _).mono ?_
    rintro e w1 ⟨rfl, F1⟩
    replace J := J.below F1
    have c0 := J.c0
    have c1 := J.c1
    clear F1
    go_wp2
    go_ret
    exact ⟨rfl, J.bel⟩
set_option maxRecDepth 100000 in
set_option maxHeartbeats 4000000 in
theorem lines_a (s : ByteArray) (f : Fd) (w : World) (hs : s.size ≤ 4096) (hn : f.n.size ≤ 4096) (hv : f.v.size ≤ 4096) (h : isTok (ls f.n) = false) :
    Calls Tryd.prog 3 #[.string s, .agg (fdV f)] w fun e w' => e = .returned (.bool true) ∧ Below w.heap.size w w' := by
  have J0 := One.new w f
  have tk := fun w => refIsToken_any f.n w (by omega)
  have tt := fun w => refText_any f.v w (by omega)
  have tr := fun w => refTrim_any f.v w (by omega)
  have k1 := fun w => isToken_any s w (by omega)
  have k2 := fun w => refIsToken_any s w (by omega)
  have gd := fun w => good_any f w (by omega) (by omega)
  have pr := fun w => print_any f w (by omega) (by omega)
  have p1 := fun w => parse_any s w (by omega)
  have p2 := fun w => refParse_any s w (by omega)
  unfold ParsePost at p1 p2
  have hp : (tx (printF f)).toList = (f.n ++ (⟨#[58, 32]⟩ : ByteArray) ++ f.v).toList := by rw [show f.n ++ (⟨#[58, 32]⟩ : ByteArray) ++ f.v = tx (printF f) from ls_inj (by rw [ls_append, ls_append, ls_tx]; rfl)]
  generalize tx (printF f) = PT at pr hp
  generalize pF (ls s) = x at p1 p2
  generalize pE (ls s) = er at p1 p2
  generalize isTok (ls s) = ts at k1 k2
  have q1 : ∀ z, (Op.equalIn 10000 23 (.agg (fdV x)) (.agg (fdV x))).run Tryd.prog z = .ok true z := fun z => by
    have := eq_fd x x z
    rw [@decide_eq_true _ (Classical.propDecidable _) rfl] at this
    exact this
  rw [good_bool, h] at gd
  rw [h] at tk
  rw [if_neg (by simp)] at gd
  clear h
  have d1 : ¬ (4096 : Int) < (s.size : Int) := by omega
  have d2 : ¬ (4096 : Int) < (f.n.size : Int) := by omega
  have d3 : ¬ (4096 : Int) < (f.v.size : Int) := by omega
  have z1 : (⟨#[58, 32]⟩ : ByteArray).size = 2 := rfl
  go_enter Tryd.func3, Tryd.ntmps3
  go_upto_region 1 with (fail)
  generalize w.alloc (.cells (fdV f) 23) = X at J0 ⊢
  generalize w.heap.size = B at J0 ⊢
  go_wp2_with fail
  refine (awake_any _).mono ?_
  rintro e w1 ⟨rfl, F1⟩
  replace J0 := J0.below F1
  have c0 := J0.c0
  have c1 := J0.c1
  clear F1
  go_wp2_with fail
  clear c0 c1
  refine (p1 _).mono ?_
  rintro e w2 ⟨rfl, G2⟩
  replace J0 := J0.below G2
  clear G2 p1
  obtain ⟨w3, S3, A3, G3, Z3⟩ := fd_keep w2 x
  replace J0 := J0.below G3
  go_upto_region 6 with (refine wpl_store S3 rfl rfl rfl rfl rfl ?_)
  clear S3 G3 Z3
  generalize w2.heap.size = B1 at A3 ⊢
  go_wp2_with fail
  refine (p2 _).mono ?_
  rintro e w4 ⟨rfl, G4⟩
  replace J0 := J0.below G4
  replace A3 := A3.old G4
  clear G4 p2
  obtain ⟨w5, S5, A5, G5, Z5⟩ := fd_keep w4 x
  replace J0 := J0.below G5
  replace A3 := A3.old G5
  go_upto_region 7 with (refine wpl_store S5 rfl rfl rfl rfl rfl ?_)
  clear S5 G5 Z5
  generalize w4.heap.size = B2 at A5 ⊢
  have J : LnJ w w5 B B1 B2 f x := ⟨J0.a, A3, A5, J0.bel⟩
  clear J0 A3 A5
  have LF : Hid (∀ z, LnJ w z B B1 B2 f x → Loads Tryd.prog z 23 ⟨B, 0, none⟩ (fdV f)) := Lib.hid fun z j => fd_loads j.a
  have LX : Hid (∀ z, LnJ w z B B1 B2 f x → Loads Tryd.prog z 23 ⟨B1, 0, none⟩ (fdV x)) := Lib.hid fun z j => fd_loads j.b
  have LY : Hid (∀ z, LnJ w z B B1 B2 f x → Loads Tryd.prog z 23 ⟨B2, 0, none⟩ (fdV x)) := Lib.hid fun z j => fd_loads j.c
  refine wp_region_held (S := fun z => LnJ w z B B1 B2 f x) (by kernel_rfl) ?_
  change wpAnyH _ _ _ _ _ _ _ _ w5.drew
  replace J := J.drew
  generalize w5.drew = w7 at J ⊢
  refine held_take 0 (.pointer (some ⟨B, 0, none⟩)) rfl (by kernel_rfl) (by kernel_rfl) (by kernel_rfl) (fun _ _ _ h => h) (Or.inl ⟨by rfl, fun x j => by go_simp⟩) J (fun K hK => ?_)
  go_simp
  refine hK _ _ ?_
  clear hK K
  refine held_take 1 (.string f.n) rfl (by kernel_rfl) (by kernel_rfl) (by kernel_rfl) (fun _ _ _ h => h) (Or.inl ⟨by rfl, fun x j => by (have c := j.c0; go_simp)⟩) J (fun K hK => ?_)
  go_simp
  refine hK _ _ ?_
  clear hK K
  refine held_one 2 (by kernel_rfl) (fun K hK => wpOp_in rfl rfl ?_)
  go_simp
  refine (tk _).mono ?_
  rintro e w5 ⟨rfl, rfl⟩
  refine hK _ _ J ?_
  clear hK K
  refine held_take 3 (.bool false) rfl (by kernel_rfl) (by kernel_rfl) (by kernel_rfl) (fun _ _ _ h => h) (Or.inl ⟨by rfl, fun x j => by go_simp⟩) J (fun K hK => ?_)
  go_simp
  refine hK _ _ ?_
  clear hK K
  refine held_take 4 (undef) rfl (by kernel_rfl) (by kernel_rfl) (by kernel_rfl) (fun _ _ _ h => h) (Or.inr ⟨by rfl, rfl⟩) J (fun K hK => ?_)
  go_simp
  refine hK _ _ ?_
  clear hK K
  refine held_take 5 (undef) rfl (by kernel_rfl) (by kernel_rfl) (by kernel_rfl) (fun _ _ _ h => h) (Or.inr ⟨by rfl, rfl⟩) J (fun K hK => ?_)
  go_simp
  refine hK _ _ ?_
  clear hK K
  refine held_take 6 (undef) rfl (by kernel_rfl) (by kernel_rfl) (by kernel_rfl) (fun _ _ _ h => h) (Or.inr ⟨by rfl, rfl⟩) J (fun K hK => ?_)
  go_simp
  refine hK _ _ ?_
  clear hK K
  refine held_take 7 (.bool false) rfl (by kernel_rfl) (by kernel_rfl) (by kernel_rfl) (fun _ _ _ h => h) (Or.inl ⟨by rfl, fun x j => by go_simp⟩) J (fun K hK => ?_)
  go_simp
  refine hK _ _ ?_
  clear hK K
  refine held_take 8 (.bool false) rfl (by kernel_rfl) (by kernel_rfl) (by kernel_rfl) (fun _ _ _ h => h) (Or.inl ⟨by rfl, fun x j => by go_simp⟩) J (fun K hK => ?_)
  go_simp
  refine hK _ _ ?_
  clear hK K
  refine held_take 9 (undef) rfl (by kernel_rfl) (by kernel_rfl) (by kernel_rfl) (fun _ _ _ h => h) (Or.inr ⟨by rfl, rfl⟩) J (fun K hK => ?_)
  go_simp
  refine hK _ _ ?_
  clear hK K
  refine held_take 10 (undef) rfl (by kernel_rfl) (by kernel_rfl) (by kernel_rfl) (fun _ _ _ h => h) (Or.inr ⟨by rfl, rfl⟩) J (fun K hK => ?_)
  go_simp
  refine hK _ _ ?_
  clear hK K
  refine held_take 11 (undef) rfl (by kernel_rfl) (by kernel_rfl) (by kernel_rfl) (fun _ _ _ h => h) (Or.inr ⟨by rfl, rfl⟩) J (fun K hK => ?_)
  go_simp
  refine hK _ _ ?_
  clear hK K
  refine held_take 12 (undef) rfl (by kernel_rfl) (by kernel_rfl) (by kernel_rfl) (fun _ _ _ h => h) (Or.inr ⟨by rfl, rfl⟩) J (fun K hK => ?_)
  go_simp
  refine hK _ _ ?_
  clear hK K
  refine held_take 13 (undef) rfl (by kernel_rfl) (by kernel_rfl) (by kernel_rfl) (fun _ _ _ h => h) (Or.inr ⟨by rfl, rfl⟩) J (fun K hK => ?_)
  go_simp
  refine hK _ _ ?_
  clear hK K
  refine held_take 14 (undef) rfl (by kernel_rfl) (by kernel_rfl) (by kernel_rfl) (fun _ _ _ h => h) (Or.inr ⟨by rfl, rfl⟩) J (fun K hK => ?_)
  go_simp
  refine hK _ _ ?_
  clear hK K
  refine held_take 15 (.bool false) rfl (by kernel_rfl) (by kernel_rfl) (by kernel_rfl) (fun _ _ _ h => h) (Or.inl ⟨by rfl, fun x j => by go_simp⟩) J (fun K hK => ?_)
  go_simp
  refine hK _ _ ?_
  clear hK K
  refine held_take 16 (.bool false) rfl (by kernel_rfl) (by kernel_rfl) (by kernel_rfl) (fun _ _ _ h => h) (Or.inl ⟨by rfl, fun x j => by go_simp⟩) J (fun K hK => ?_)
  go_simp
  refine hK _ _ ?_
  clear hK K
  refine wpAnyH_done (by kernel_rfl) ?_ _
  go_upto_region 8 with (fail)
  refine wp_region_held (S := fun z => LnJ w z B B1 B2 f x) (by kernel_rfl) ?_
  change wpAnyH _ _ _ _ _ _ _ _ w7.drew
  replace J := J.drew
  generalize w7.drew = w8 at J ⊢
  refine held_take 0 (.string s) rfl (by kernel_rfl) (by kernel_rfl) (by kernel_rfl) (fun _ _ _ h => h) (Or.inl ⟨by rfl, fun x j => by go_simp⟩) J (fun K hK => ?_)
  go_simp
  refine hK _ _ ?_
  clear hK K
  refine held_take 2 (.string s) rfl (by kernel_rfl) (by kernel_rfl) (by kernel_rfl) (fun _ _ _ h => h) (Or.inl ⟨by rfl, fun x j => by go_simp⟩) J (fun K hK => ?_)
  go_simp
  refine hK _ _ ?_
  clear hK K
  refine held_one 1 (by kernel_rfl) (fun K hK => wpOp_in rfl rfl ?_)
  go_simp
  refine (k1 _).mono ?_
  rintro e w5 ⟨rfl, rfl⟩
  refine hK _ _ J ?_
  clear hK K
  refine held_one 3 (by kernel_rfl) (fun K hK => wpOp_in rfl rfl ?_)
  go_simp
  refine (k2 _).mono ?_
  rintro e w5 ⟨rfl, rfl⟩
  refine hK _ _ J ?_
  clear hK K
  refine held_take 4 (.bool true) rfl (by kernel_rfl) (by kernel_rfl) (by kernel_rfl) (fun _ _ _ h => h) (Or.inl ⟨by rfl, fun x j => by go_simp⟩) J (fun K hK => ?_)
  go_simp
  refine hK _ _ ?_
  clear hK K
  refine held_take 5 (.bool true) rfl (by kernel_rfl) (by kernel_rfl) (by kernel_rfl) (fun _ _ _ h => h) (Or.inl ⟨by rfl, fun x j => by go_simp⟩) J (fun K hK => ?_)
  go_simp
  refine hK _ _ ?_
  clear hK K
  refine held_take 6 (.agg (fdV x)) rfl (by kernel_rfl) (by kernel_rfl) (by kernel_rfl) (fun _ _ _ h => h) (yields_load LX.out rfl rfl rfl) J (fun K hK => ?_)
  go_simp
  refine hK _ _ ?_
  clear hK K
  refine held_take 7 (.agg (fdV x)) rfl (by kernel_rfl) (by kernel_rfl) (by kernel_rfl) (fun _ _ _ h => h) (yields_load LY.out rfl rfl rfl) J (fun K hK => ?_)
  go_simp
  refine hK _ _ ?_
  clear hK K
  refine held_take 8 (.bool true) rfl (by kernel_rfl) (by kernel_rfl) (by kernel_rfl) (fun _ _ _ h => h) (Or.inl ⟨by rfl, fun x j => by go_simp⟩) J (fun K hK => ?_)
  go_simp
  refine hK _ _ ?_
  clear hK K
  refine held_take 9 (.bool true) rfl (by kernel_rfl) (by kernel_rfl) (by kernel_rfl) (fun _ _ _ h => h) (Or.inl ⟨by rfl, fun x j => by go_simp⟩) J (fun K hK => ?_)
  go_simp
  refine hK _ _ ?_
  clear hK K
  refine held_take 10 (.bool true) rfl (by kernel_rfl) (by kernel_rfl) (by kernel_rfl) (fun _ _ _ h => h) (Or.inl ⟨by rfl, fun x j => by go_simp⟩) J (fun K hK => ?_)
  go_simp
  refine hK _ _ ?_
  clear hK K
  refine held_take 11 (.int .i64 er) rfl (by kernel_rfl) (by kernel_rfl) (by kernel_rfl) (fun _ _ _ h => h) (Or.inl ⟨by rfl, fun x j => by go_simp⟩) J (fun K hK => ?_)
  go_simp
  refine hK _ _ ?_
  clear hK K
  refine held_take 12 (.int .i64 er) rfl (by kernel_rfl) (by kernel_rfl) (by kernel_rfl) (fun _ _ _ h => h) (Or.inl ⟨by rfl, fun x j => by go_simp⟩) J (fun K hK => ?_)
  go_simp
  refine hK _ _ ?_
  clear hK K
  refine held_take 13 (.bool true) rfl (by kernel_rfl) (by kernel_rfl) (by kernel_rfl) (fun _ _ _ h => h) (Or.inl ⟨by rfl, fun x j => by go_simp⟩) J (fun K hK => ?_)
  go_simp
  refine hK _ _ ?_
  clear hK K
  refine held_take 14 (.bool true) rfl (by kernel_rfl) (by kernel_rfl) (by kernel_rfl) (fun _ _ _ h => h) (Or.inl ⟨by rfl, fun x j => by go_simp⟩) J (fun K hK => ?_)
  go_simp
  refine hK _ _ ?_
  clear hK K
  refine held_take 15 (.bool true) rfl (by kernel_rfl) (by kernel_rfl) (by kernel_rfl) (fun _ _ _ h => h) (Or.inl ⟨by rfl, fun x j => by go_simp⟩) J (fun K hK => ?_)
  go_simp
  refine hK _ _ ?_
  clear hK K
  refine held_take 16 (.agg (fdV f)) rfl (by kernel_rfl) (by kernel_rfl) (by kernel_rfl) (fun _ _ _ h => h) (yields_load LF.out rfl rfl rfl) J (fun K hK => ?_)
  go_simp
  refine hK _ _ ?_
  clear hK K
  refine held_take 18 (.bool false) rfl (by kernel_rfl) (by kernel_rfl) (by kernel_rfl) (fun _ _ _ h => h) (Or.inl ⟨by rfl, fun x j => by go_simp⟩) J (fun K hK => ?_)
  go_simp
  refine hK _ _ ?_
  clear hK K
  refine held_one 17 (by kernel_rfl) (fun K hK => wpOp_in rfl rfl ?_)
  go_simp
  refine (gd _).mono ?_
  rintro e w6 ⟨rfl, hb⟩
  have Ja := J.below hb
  refine hK _ _ Ja ?_
  clear J hb
  clear hK K
  refine held_take 19 (.bool true) rfl (by kernel_rfl) (by kernel_rfl) (by kernel_rfl) (fun _ _ _ h => h) (Or.inl ⟨by rfl, fun x j => by go_simp⟩) Ja (fun K hK => ?_)
  go_simp
  refine hK _ _ ?_
  clear hK K
  refine held_take 20 (.bool true) rfl (by kernel_rfl) (by kernel_rfl) (by kernel_rfl) (fun _ _ _ h => h) (Or.inl ⟨by rfl, fun x j => by go_simp⟩) Ja (fun K hK => ?_)
  go_simp
  refine hK _ _ ?_
  clear hK K
  refine held_take 21 (.bool true) rfl (by kernel_rfl) (by kernel_rfl) (by kernel_rfl) (fun _ _ _ h => h) (Or.inl ⟨by rfl, fun x j => by go_simp⟩) Ja (fun K hK => ?_)
  go_simp
  refine hK _ _ ?_
  clear hK K
  refine held_take 22 (.agg (fdV f)) rfl (by kernel_rfl) (by kernel_rfl) (by kernel_rfl) (fun _ _ _ h => h) (yields_load LF.out rfl rfl rfl) Ja (fun K hK => ?_)
  go_simp
  refine hK _ _ ?_
  clear hK K
  refine held_take 24 (.pointer (some ⟨B, 0, none⟩)) rfl (by kernel_rfl) (by kernel_rfl) (by kernel_rfl) (fun _ _ _ h => h) (Or.inl ⟨by rfl, fun x j => by go_simp⟩) Ja (fun K hK => ?_)
  go_simp
  refine hK _ _ ?_
  clear hK K
  refine held_take 25 (.string f.n) rfl (by kernel_rfl) (by kernel_rfl) (by kernel_rfl) (fun _ _ _ h => h) (Or.inl ⟨by rfl, fun x j => by (have c := j.c0; go_simp)⟩) Ja (fun K hK => ?_)
  go_simp
  refine hK _ _ ?_
  clear hK K
  refine held_take 26 (.string (f.n ++ ⟨#[58, 32]⟩)) rfl (by kernel_rfl) (by kernel_rfl) (by kernel_rfl) (fun _ _ _ h => h) (Or.inl ⟨by rfl, fun x j => by (go_simp; omega)⟩) Ja (fun K hK => ?_)
  go_simp
  refine hK _ _ ?_
  clear hK K
  refine held_take 27 (.pointer (some ⟨B, 1, none⟩)) rfl (by kernel_rfl) (by kernel_rfl) (by kernel_rfl) (fun _ _ _ h => h) (Or.inl ⟨by rfl, fun x j => by go_simp⟩) Ja (fun K hK => ?_)
  go_simp
  refine hK _ _ ?_
  clear hK K
  refine held_take 28 (.string f.v) rfl (by kernel_rfl) (by kernel_rfl) (by kernel_rfl) (fun _ _ _ h => h) (Or.inl ⟨by rfl, fun x j => by (have c := j.c1; go_simp)⟩) Ja (fun K hK => ?_)
  go_simp
  refine hK _ _ ?_
  clear hK K
  refine held_take 29 (.string (f.n ++ ⟨#[58, 32]⟩ ++ f.v)) rfl (by kernel_rfl) (by kernel_rfl) (by kernel_rfl) (fun _ _ _ h => h) (Or.inl ⟨by rfl, fun x j => by (go_simp; omega)⟩) Ja (fun K hK => ?_)
  go_simp
  refine hK _ _ ?_
  clear hK K
  refine held_one 23 (by kernel_rfl) (fun K hK => wpOp_in rfl rfl ?_)
  go_simp
  refine (pr _).mono ?_
  rintro e w6 ⟨rfl, hb⟩
  have Jb := Ja.below hb
  refine hK _ _ Jb ?_
  clear Ja hb
  clear hK K
  refine held_take 30 (.bool true) rfl (by kernel_rfl) (by kernel_rfl) (by kernel_rfl) (fun _ _ _ h => h) (Or.inl ⟨by rfl, fun x j => by go_simp⟩) Jb (fun K hK => ?_)
  go_simp
  refine hK _ _ ?_
  clear hK K
  refine held_take 31 (.bool true) rfl (by kernel_rfl) (by kernel_rfl) (by kernel_rfl) (fun _ _ _ h => h) (Or.inl ⟨by rfl, fun x j => by go_simp⟩) Jb (fun K hK => ?_)
  go_simp
  refine hK _ _ ?_
  clear hK K
  refine held_take 32 (.bool true) rfl (by kernel_rfl) (by kernel_rfl) (by kernel_rfl) (fun _ _ _ h => h) (Or.inl ⟨by rfl, fun x j => by go_simp⟩) Jb (fun K hK => ?_)
  go_simp
  refine hK _ _ ?_
  clear hK K
  refine wpAnyH_done (by kernel_rfl) ?_ _
  go_wp2
  go_ret
  exact ⟨rfl, Jb.bel⟩
set_option maxRecDepth 100000 in
set_option maxHeartbeats 4000000 in
theorem lines_b (s : ByteArray) (f : Fd) (w : World) (hs : s.size ≤ 4096) (hn : f.n.size ≤ 4096) (hv : f.v.size ≤ 4096) (h : isTok (ls f.n) = true) (h2 : isTxt (ls f.v) = false) :
    Calls Tryd.prog 3 #[.string s, .agg (fdV f)] w fun e w' => e = .returned (.bool true) ∧ Below w.heap.size w w' := by
  have J0 := One.new w f
  have tk := fun w => refIsToken_any f.n w (by omega)
  have tt := fun w => refText_any f.v w (by omega)
  have tr := fun w => refTrim_any f.v w (by omega)
  have k1 := fun w => isToken_any s w (by omega)
  have k2 := fun w => refIsToken_any s w (by omega)
  have gd := fun w => good_any f w (by omega) (by omega)
  have pr := fun w => print_any f w (by omega) (by omega)
  have p1 := fun w => parse_any s w (by omega)
  have p2 := fun w => refParse_any s w (by omega)
  unfold ParsePost at p1 p2
  have hp : (tx (printF f)).toList = (f.n ++ (⟨#[58, 32]⟩ : ByteArray) ++ f.v).toList := by rw [show f.n ++ (⟨#[58, 32]⟩ : ByteArray) ++ f.v = tx (printF f) from ls_inj (by rw [ls_append, ls_append, ls_tx]; rfl)]
  generalize tx (printF f) = PT at pr hp
  generalize pF (ls s) = x at p1 p2
  generalize pE (ls s) = er at p1 p2
  generalize isTok (ls s) = ts at k1 k2
  have q1 : ∀ z, (Op.equalIn 10000 23 (.agg (fdV x)) (.agg (fdV x))).run Tryd.prog z = .ok true z := fun z => by
    have := eq_fd x x z
    rw [@decide_eq_true _ (Classical.propDecidable _) rfl] at this
    exact this
  rw [good_bool, h, h2, if_pos rfl, if_neg (by simp)] at gd
  rw [h] at tk
  rw [h2] at tt
  clear h h2
  have d1 : ¬ (4096 : Int) < (s.size : Int) := by omega
  have d2 : ¬ (4096 : Int) < (f.n.size : Int) := by omega
  have d3 : ¬ (4096 : Int) < (f.v.size : Int) := by omega
  have z1 : (⟨#[58, 32]⟩ : ByteArray).size = 2 := rfl
  go_enter Tryd.func3, Tryd.ntmps3
  go_upto_region 1 with (fail)
  generalize w.alloc (.cells (fdV f) 23) = X at J0 ⊢
  generalize w.heap.size = B at J0 ⊢
  go_wp2_with fail
  refine (awake_any _).mono ?_
  rintro e w1 ⟨rfl, F1⟩
  replace J0 := J0.below F1
  have c0 := J0.c0
  have c1 := J0.c1
  clear F1
  go_wp2_with fail
  clear c0 c1
  refine (p1 _).mono ?_
  rintro e w2 ⟨rfl, G2⟩
  replace J0 := J0.below G2
  clear G2 p1
  obtain ⟨w3, S3, A3, G3, Z3⟩ := fd_keep w2 x
  replace J0 := J0.below G3
  go_upto_region 6 with (refine wpl_store S3 rfl rfl rfl rfl rfl ?_)
  clear S3 G3 Z3
  generalize w2.heap.size = B1 at A3 ⊢
  go_wp2_with fail
  refine (p2 _).mono ?_
  rintro e w4 ⟨rfl, G4⟩
  replace J0 := J0.below G4
  replace A3 := A3.old G4
  clear G4 p2
  obtain ⟨w5, S5, A5, G5, Z5⟩ := fd_keep w4 x
  replace J0 := J0.below G5
  replace A3 := A3.old G5
  go_upto_region 7 with (refine wpl_store S5 rfl rfl rfl rfl rfl ?_)
  clear S5 G5 Z5
  generalize w4.heap.size = B2 at A5 ⊢
  have J : LnJ w w5 B B1 B2 f x := ⟨J0.a, A3, A5, J0.bel⟩
  clear J0 A3 A5
  have LF : Hid (∀ z, LnJ w z B B1 B2 f x → Loads Tryd.prog z 23 ⟨B, 0, none⟩ (fdV f)) := Lib.hid fun z j => fd_loads j.a
  have LX : Hid (∀ z, LnJ w z B B1 B2 f x → Loads Tryd.prog z 23 ⟨B1, 0, none⟩ (fdV x)) := Lib.hid fun z j => fd_loads j.b
  have LY : Hid (∀ z, LnJ w z B B1 B2 f x → Loads Tryd.prog z 23 ⟨B2, 0, none⟩ (fdV x)) := Lib.hid fun z j => fd_loads j.c
  refine wp_region_held (S := fun z => LnJ w z B B1 B2 f x) (by kernel_rfl) ?_
  change wpAnyH _ _ _ _ _ _ _ _ w5.drew
  replace J := J.drew
  generalize w5.drew = w7 at J ⊢
  refine held_take 0 (.pointer (some ⟨B, 0, none⟩)) rfl (by kernel_rfl) (by kernel_rfl) (by kernel_rfl) (fun _ _ _ h => h) (Or.inl ⟨by rfl, fun x j => by go_simp⟩) J (fun K hK => ?_)
  go_simp
  refine hK _ _ ?_
  clear hK K
  refine held_take 1 (.string f.n) rfl (by kernel_rfl) (by kernel_rfl) (by kernel_rfl) (fun _ _ _ h => h) (Or.inl ⟨by rfl, fun x j => by (have c := j.c0; go_simp)⟩) J (fun K hK => ?_)
  go_simp
  refine hK _ _ ?_
  clear hK K
  refine held_one 2 (by kernel_rfl) (fun K hK => wpOp_in rfl rfl ?_)
  go_simp
  refine (tk _).mono ?_
  rintro e w5 ⟨rfl, rfl⟩
  refine hK _ _ J ?_
  clear hK K
  refine held_take 3 (.bool true) rfl (by kernel_rfl) (by kernel_rfl) (by kernel_rfl) (fun _ _ _ h => h) (Or.inl ⟨by rfl, fun x j => by go_simp⟩) J (fun K hK => ?_)
  go_simp
  refine hK _ _ ?_
  clear hK K
  refine held_take 4 (.pointer (some ⟨B, 1, none⟩)) rfl (by kernel_rfl) (by kernel_rfl) (by kernel_rfl) (fun _ _ _ h => h) (Or.inl ⟨by rfl, fun x j => by go_simp⟩) J (fun K hK => ?_)
  go_simp
  refine hK _ _ ?_
  clear hK K
  refine held_take 5 (.string f.v) rfl (by kernel_rfl) (by kernel_rfl) (by kernel_rfl) (fun _ _ _ h => h) (Or.inl ⟨by rfl, fun x j => by (have c := j.c1; go_simp)⟩) J (fun K hK => ?_)
  go_simp
  refine hK _ _ ?_
  clear hK K
  refine held_one 6 (by kernel_rfl) (fun K hK => wpOp_in rfl rfl ?_)
  go_simp
  refine (tt _).mono ?_
  rintro e w5 ⟨rfl, rfl⟩
  refine hK _ _ J ?_
  clear hK K
  refine held_take 7 (.bool false) rfl (by kernel_rfl) (by kernel_rfl) (by kernel_rfl) (fun _ _ _ h => h) (Or.inl ⟨by rfl, fun x j => by go_simp⟩) J (fun K hK => ?_)
  go_simp
  refine hK _ _ ?_
  clear hK K
  refine held_take 8 (.bool false) rfl (by kernel_rfl) (by kernel_rfl) (by kernel_rfl) (fun _ _ _ h => h) (Or.inl ⟨by rfl, fun x j => by go_simp⟩) J (fun K hK => ?_)
  go_simp
  refine hK _ _ ?_
  clear hK K
  refine held_take 9 (undef) rfl (by kernel_rfl) (by kernel_rfl) (by kernel_rfl) (fun _ _ _ h => h) (Or.inr ⟨by rfl, rfl⟩) J (fun K hK => ?_)
  go_simp
  refine hK _ _ ?_
  clear hK K
  refine held_take 10 (undef) rfl (by kernel_rfl) (by kernel_rfl) (by kernel_rfl) (fun _ _ _ h => h) (Or.inr ⟨by rfl, rfl⟩) J (fun K hK => ?_)
  go_simp
  refine hK _ _ ?_
  clear hK K
  refine held_take 11 (undef) rfl (by kernel_rfl) (by kernel_rfl) (by kernel_rfl) (fun _ _ _ h => h) (Or.inr ⟨by rfl, rfl⟩) J (fun K hK => ?_)
  go_simp
  refine hK _ _ ?_
  clear hK K
  refine held_take 12 (undef) rfl (by kernel_rfl) (by kernel_rfl) (by kernel_rfl) (fun _ _ _ h => h) (Or.inr ⟨by rfl, rfl⟩) J (fun K hK => ?_)
  go_simp
  refine hK _ _ ?_
  clear hK K
  refine held_take 13 (undef) rfl (by kernel_rfl) (by kernel_rfl) (by kernel_rfl) (fun _ _ _ h => h) (Or.inr ⟨by rfl, rfl⟩) J (fun K hK => ?_)
  go_simp
  refine hK _ _ ?_
  clear hK K
  refine held_take 14 (undef) rfl (by kernel_rfl) (by kernel_rfl) (by kernel_rfl) (fun _ _ _ h => h) (Or.inr ⟨by rfl, rfl⟩) J (fun K hK => ?_)
  go_simp
  refine hK _ _ ?_
  clear hK K
  refine held_take 15 (.bool false) rfl (by kernel_rfl) (by kernel_rfl) (by kernel_rfl) (fun _ _ _ h => h) (Or.inl ⟨by rfl, fun x j => by go_simp⟩) J (fun K hK => ?_)
  go_simp
  refine hK _ _ ?_
  clear hK K
  refine held_take 16 (.bool false) rfl (by kernel_rfl) (by kernel_rfl) (by kernel_rfl) (fun _ _ _ h => h) (Or.inl ⟨by rfl, fun x j => by go_simp⟩) J (fun K hK => ?_)
  go_simp
  refine hK _ _ ?_
  clear hK K
  refine wpAnyH_done (by kernel_rfl) ?_ _
  go_upto_region 8 with (fail)
  refine wp_region_held (S := fun z => LnJ w z B B1 B2 f x) (by kernel_rfl) ?_
  change wpAnyH _ _ _ _ _ _ _ _ w7.drew
  replace J := J.drew
  generalize w7.drew = w8 at J ⊢
  refine held_take 0 (.string s) rfl (by kernel_rfl) (by kernel_rfl) (by kernel_rfl) (fun _ _ _ h => h) (Or.inl ⟨by rfl, fun x j => by go_simp⟩) J (fun K hK => ?_)
  go_simp
  refine hK _ _ ?_
  clear hK K
  refine held_take 2 (.string s) rfl (by kernel_rfl) (by kernel_rfl) (by kernel_rfl) (fun _ _ _ h => h) (Or.inl ⟨by rfl, fun x j => by go_simp⟩) J (fun K hK => ?_)
  go_simp
  refine hK _ _ ?_
  clear hK K
  refine held_one 1 (by kernel_rfl) (fun K hK => wpOp_in rfl rfl ?_)
  go_simp
  refine (k1 _).mono ?_
  rintro e w5 ⟨rfl, rfl⟩
  refine hK _ _ J ?_
  clear hK K
  refine held_one 3 (by kernel_rfl) (fun K hK => wpOp_in rfl rfl ?_)
  go_simp
  refine (k2 _).mono ?_
  rintro e w5 ⟨rfl, rfl⟩
  refine hK _ _ J ?_
  clear hK K
  refine held_take 4 (.bool true) rfl (by kernel_rfl) (by kernel_rfl) (by kernel_rfl) (fun _ _ _ h => h) (Or.inl ⟨by rfl, fun x j => by go_simp⟩) J (fun K hK => ?_)
  go_simp
  refine hK _ _ ?_
  clear hK K
  refine held_take 5 (.bool true) rfl (by kernel_rfl) (by kernel_rfl) (by kernel_rfl) (fun _ _ _ h => h) (Or.inl ⟨by rfl, fun x j => by go_simp⟩) J (fun K hK => ?_)
  go_simp
  refine hK _ _ ?_
  clear hK K
  refine held_take 6 (.agg (fdV x)) rfl (by kernel_rfl) (by kernel_rfl) (by kernel_rfl) (fun _ _ _ h => h) (yields_load LX.out rfl rfl rfl) J (fun K hK => ?_)
  go_simp
  refine hK _ _ ?_
  clear hK K
  refine held_take 7 (.agg (fdV x)) rfl (by kernel_rfl) (by kernel_rfl) (by kernel_rfl) (fun _ _ _ h => h) (yields_load LY.out rfl rfl rfl) J (fun K hK => ?_)
  go_simp
  refine hK _ _ ?_
  clear hK K
  refine held_take 8 (.bool true) rfl (by kernel_rfl) (by kernel_rfl) (by kernel_rfl) (fun _ _ _ h => h) (Or.inl ⟨by rfl, fun x j => by go_simp⟩) J (fun K hK => ?_)
  go_simp
  refine hK _ _ ?_
  clear hK K
  refine held_take 9 (.bool true) rfl (by kernel_rfl) (by kernel_rfl) (by kernel_rfl) (fun _ _ _ h => h) (Or.inl ⟨by rfl, fun x j => by go_simp⟩) J (fun K hK => ?_)
  go_simp
  refine hK _ _ ?_
  clear hK K
  refine held_take 10 (.bool true) rfl (by kernel_rfl) (by kernel_rfl) (by kernel_rfl) (fun _ _ _ h => h) (Or.inl ⟨by rfl, fun x j => by go_simp⟩) J (fun K hK => ?_)
  go_simp
  refine hK _ _ ?_
  clear hK K
  refine held_take 11 (.int .i64 er) rfl (by kernel_rfl) (by kernel_rfl) (by kernel_rfl) (fun _ _ _ h => h) (Or.inl ⟨by rfl, fun x j => by go_simp⟩) J (fun K hK => ?_)
  go_simp
  refine hK _ _ ?_
  clear hK K
  refine held_take 12 (.int .i64 er) rfl (by kernel_rfl) (by kernel_rfl) (by kernel_rfl) (fun _ _ _ h => h) (Or.inl ⟨by rfl, fun x j => by go_simp⟩) J (fun K hK => ?_)
  go_simp
  refine hK _ _ ?_
  clear hK K
  refine held_take 13 (.bool true) rfl (by kernel_rfl) (by kernel_rfl) (by kernel_rfl) (fun _ _ _ h => h) (Or.inl ⟨by rfl, fun x j => by go_simp⟩) J (fun K hK => ?_)
  go_simp
  refine hK _ _ ?_
  clear hK K
  refine held_take 14 (.bool true) rfl (by kernel_rfl) (by kernel_rfl) (by kernel_rfl) (fun _ _ _ h => h) (Or.inl ⟨by rfl, fun x j => by go_simp⟩) J (fun K hK => ?_)
  go_simp
  refine hK _ _ ?_
  clear hK K
  refine held_take 15 (.bool true) rfl (by kernel_rfl) (by kernel_rfl) (by kernel_rfl) (fun _ _ _ h => h) (Or.inl ⟨by rfl, fun x j => by go_simp⟩) J (fun K hK => ?_)
  go_simp
  refine hK _ _ ?_
  clear hK K
  refine held_take 16 (.agg (fdV f)) rfl (by kernel_rfl) (by kernel_rfl) (by kernel_rfl) (fun _ _ _ h => h) (yields_load LF.out rfl rfl rfl) J (fun K hK => ?_)
  go_simp
  refine hK _ _ ?_
  clear hK K
  refine held_take 18 (.bool false) rfl (by kernel_rfl) (by kernel_rfl) (by kernel_rfl) (fun _ _ _ h => h) (Or.inl ⟨by rfl, fun x j => by go_simp⟩) J (fun K hK => ?_)
  go_simp
  refine hK _ _ ?_
  clear hK K
  refine held_one 17 (by kernel_rfl) (fun K hK => wpOp_in rfl rfl ?_)
  go_simp
  refine (gd _).mono ?_
  rintro e w6 ⟨rfl, hb⟩
  have Ja := J.below hb
  refine hK _ _ Ja ?_
  clear J hb
  clear hK K
  refine held_take 19 (.bool true) rfl (by kernel_rfl) (by kernel_rfl) (by kernel_rfl) (fun _ _ _ h => h) (Or.inl ⟨by rfl, fun x j => by go_simp⟩) Ja (fun K hK => ?_)
  go_simp
  refine hK _ _ ?_
  clear hK K
  refine held_take 20 (.bool true) rfl (by kernel_rfl) (by kernel_rfl) (by kernel_rfl) (fun _ _ _ h => h) (Or.inl ⟨by rfl, fun x j => by go_simp⟩) Ja (fun K hK => ?_)
  go_simp
  refine hK _ _ ?_
  clear hK K
  refine held_take 21 (.bool true) rfl (by kernel_rfl) (by kernel_rfl) (by kernel_rfl) (fun _ _ _ h => h) (Or.inl ⟨by rfl, fun x j => by go_simp⟩) Ja (fun K hK => ?_)
  go_simp
  refine hK _ _ ?_
  clear hK K
  refine held_take 22 (.agg (fdV f)) rfl (by kernel_rfl) (by kernel_rfl) (by kernel_rfl) (fun _ _ _ h => h) (yields_load LF.out rfl rfl rfl) Ja (fun K hK => ?_)
  go_simp
  refine hK _ _ ?_
  clear hK K
  refine held_take 24 (.pointer (some ⟨B, 0, none⟩)) rfl (by kernel_rfl) (by kernel_rfl) (by kernel_rfl) (fun _ _ _ h => h) (Or.inl ⟨by rfl, fun x j => by go_simp⟩) Ja (fun K hK => ?_)
  go_simp
  refine hK _ _ ?_
  clear hK K
  refine held_take 25 (.string f.n) rfl (by kernel_rfl) (by kernel_rfl) (by kernel_rfl) (fun _ _ _ h => h) (Or.inl ⟨by rfl, fun x j => by (have c := j.c0; go_simp)⟩) Ja (fun K hK => ?_)
  go_simp
  refine hK _ _ ?_
  clear hK K
  refine held_take 26 (.string (f.n ++ ⟨#[58, 32]⟩)) rfl (by kernel_rfl) (by kernel_rfl) (by kernel_rfl) (fun _ _ _ h => h) (Or.inl ⟨by rfl, fun x j => by (go_simp; omega)⟩) Ja (fun K hK => ?_)
  go_simp
  refine hK _ _ ?_
  clear hK K
  refine held_take 27 (.pointer (some ⟨B, 1, none⟩)) rfl (by kernel_rfl) (by kernel_rfl) (by kernel_rfl) (fun _ _ _ h => h) (Or.inl ⟨by rfl, fun x j => by go_simp⟩) Ja (fun K hK => ?_)
  go_simp
  refine hK _ _ ?_
  clear hK K
  refine held_take 28 (.string f.v) rfl (by kernel_rfl) (by kernel_rfl) (by kernel_rfl) (fun _ _ _ h => h) (Or.inl ⟨by rfl, fun x j => by (have c := j.c1; go_simp)⟩) Ja (fun K hK => ?_)
  go_simp
  refine hK _ _ ?_
  clear hK K
  refine held_take 29 (.string (f.n ++ ⟨#[58, 32]⟩ ++ f.v)) rfl (by kernel_rfl) (by kernel_rfl) (by kernel_rfl) (fun _ _ _ h => h) (Or.inl ⟨by rfl, fun x j => by (go_simp; omega)⟩) Ja (fun K hK => ?_)
  go_simp
  refine hK _ _ ?_
  clear hK K
  refine held_one 23 (by kernel_rfl) (fun K hK => wpOp_in rfl rfl ?_)
  go_simp
  refine (pr _).mono ?_
  rintro e w6 ⟨rfl, hb⟩
  have Jb := Ja.below hb
  refine hK _ _ Jb ?_
  clear Ja hb
  clear hK K
  refine held_take 30 (.bool true) rfl (by kernel_rfl) (by kernel_rfl) (by kernel_rfl) (fun _ _ _ h => h) (Or.inl ⟨by rfl, fun x j => by go_simp⟩) Jb (fun K hK => ?_)
  go_simp
  refine hK _ _ ?_
  clear hK K
  refine held_take 31 (.bool true) rfl (by kernel_rfl) (by kernel_rfl) (by kernel_rfl) (fun _ _ _ h => h) (Or.inl ⟨by rfl, fun x j => by go_simp⟩) Jb (fun K hK => ?_)
  go_simp
  refine hK _ _ ?_
  clear hK K
  refine held_take 32 (.bool true) rfl (by kernel_rfl) (by kernel_rfl) (by kernel_rfl) (fun _ _ _ h => h) (Or.inl ⟨by rfl, fun x j => by go_simp⟩) Jb (fun K hK => ?_)
  go_simp
  refine hK _ _ ?_
  clear hK K
  refine wpAnyH_done (by kernel_rfl) ?_ _
  go_wp2
  go_ret
  exact ⟨rfl, Jb.bel⟩
set_option maxRecDepth 100000 in
set_option maxHeartbeats 4000000 in
theorem lines_c (s : ByteArray) (f : Fd) (w : World) (hs : s.size ≤ 4096) (hn : f.n.size ≤ 4096) (hv : f.v.size ≤ 4096) (h : isTok (ls f.n) = true) (h2 : isTxt (ls f.v) = true) (v : Bool) (h3 : ((tx (trimT (ls f.v))).toList == f.v.toList) = v) :
    Calls Tryd.prog 3 #[.string s, .agg (fdV f)] w fun e w' => e = .returned (.bool true) ∧ Below w.heap.size w w' := by
  have J0 := One.new w f
  have tk := fun w => refIsToken_any f.n w (by omega)
  have tt := fun w => refText_any f.v w (by omega)
  have tr := fun w => refTrim_any f.v w (by omega)
  have k1 := fun w => isToken_any s w (by omega)
  have k2 := fun w => refIsToken_any s w (by omega)
  have gd := fun w => good_any f w (by omega) (by omega)
  have pr := fun w => print_any f w (by omega) (by omega)
  have p1 := fun w => parse_any s w (by omega)
  have p2 := fun w => refParse_any s w (by omega)
  unfold ParsePost at p1 p2
  have hp : (tx (printF f)).toList = (f.n ++ (⟨#[58, 32]⟩ : ByteArray) ++ f.v).toList := by rw [show f.n ++ (⟨#[58, 32]⟩ : ByteArray) ++ f.v = tx (printF f) from ls_inj (by rw [ls_append, ls_append, ls_tx]; rfl)]
  generalize tx (printF f) = PT at pr hp
  generalize pF (ls s) = x at p1 p2
  generalize pE (ls s) = er at p1 p2
  generalize isTok (ls s) = ts at k1 k2
  have q1 : ∀ z, (Op.equalIn 10000 23 (.agg (fdV x)) (.agg (fdV x))).run Tryd.prog z = .ok true z := fun z => by
    have := eq_fd x x z
    rw [@decide_eq_true _ (Classical.propDecidable _) rfl] at this
    exact this
  rw [good_bool, h, h2, if_pos rfl, if_pos rfl, show (f.v.toList == (tx (trimT (ls f.v))).toList) = v from by rw [← h3, Bool.eq_iff_iff, beq_iff_eq, beq_iff_eq]; exact eq_comm] at gd
  rw [h] at tk
  rw [h2] at tt
  generalize tx (trimT (ls f.v)) = T at tr h3
  clear h h2
  have d1 : ¬ (4096 : Int) < (s.size : Int) := by omega
  have d2 : ¬ (4096 : Int) < (f.n.size : Int) := by omega
  have d3 : ¬ (4096 : Int) < (f.v.size : Int) := by omega
  have z1 : (⟨#[58, 32]⟩ : ByteArray).size = 2 := rfl
  go_enter Tryd.func3, Tryd.ntmps3
  go_upto_region 1 with (fail)
  generalize w.alloc (.cells (fdV f) 23) = X at J0 ⊢
  generalize w.heap.size = B at J0 ⊢
  go_wp2_with fail
  refine (awake_any _).mono ?_
  rintro e w1 ⟨rfl, F1⟩
  replace J0 := J0.below F1
  have c0 := J0.c0
  have c1 := J0.c1
  clear F1
  go_wp2_with fail
  clear c0 c1
  refine (p1 _).mono ?_
  rintro e w2 ⟨rfl, G2⟩
  replace J0 := J0.below G2
  clear G2 p1
  obtain ⟨w3, S3, A3, G3, Z3⟩ := fd_keep w2 x
  replace J0 := J0.below G3
  go_upto_region 6 with (refine wpl_store S3 rfl rfl rfl rfl rfl ?_)
  clear S3 G3 Z3
  generalize w2.heap.size = B1 at A3 ⊢
  go_wp2_with fail
  refine (p2 _).mono ?_
  rintro e w4 ⟨rfl, G4⟩
  replace J0 := J0.below G4
  replace A3 := A3.old G4
  clear G4 p2
  obtain ⟨w5, S5, A5, G5, Z5⟩ := fd_keep w4 x
  replace J0 := J0.below G5
  replace A3 := A3.old G5
  go_upto_region 7 with (refine wpl_store S5 rfl rfl rfl rfl rfl ?_)
  clear S5 G5 Z5
  generalize w4.heap.size = B2 at A5 ⊢
  have J : LnJ w w5 B B1 B2 f x := ⟨J0.a, A3, A5, J0.bel⟩
  clear J0 A3 A5
  have LF : Hid (∀ z, LnJ w z B B1 B2 f x → Loads Tryd.prog z 23 ⟨B, 0, none⟩ (fdV f)) := Lib.hid fun z j => fd_loads j.a
  have LX : Hid (∀ z, LnJ w z B B1 B2 f x → Loads Tryd.prog z 23 ⟨B1, 0, none⟩ (fdV x)) := Lib.hid fun z j => fd_loads j.b
  have LY : Hid (∀ z, LnJ w z B B1 B2 f x → Loads Tryd.prog z 23 ⟨B2, 0, none⟩ (fdV x)) := Lib.hid fun z j => fd_loads j.c
  refine wp_region_held (S := fun z => LnJ w z B B1 B2 f x) (by kernel_rfl) ?_
  change wpAnyH _ _ _ _ _ _ _ _ w5.drew
  replace J := J.drew
  generalize w5.drew = w7 at J ⊢
  refine held_take 0 (.pointer (some ⟨B, 0, none⟩)) rfl (by kernel_rfl) (by kernel_rfl) (by kernel_rfl) (fun _ _ _ h => h) (Or.inl ⟨by rfl, fun x j => by go_simp⟩) J (fun K hK => ?_)
  go_simp
  refine hK _ _ ?_
  clear hK K
  refine held_take 1 (.string f.n) rfl (by kernel_rfl) (by kernel_rfl) (by kernel_rfl) (fun _ _ _ h => h) (Or.inl ⟨by rfl, fun x j => by (have c := j.c0; go_simp)⟩) J (fun K hK => ?_)
  go_simp
  refine hK _ _ ?_
  clear hK K
  refine held_one 2 (by kernel_rfl) (fun K hK => wpOp_in rfl rfl ?_)
  go_simp
  refine (tk _).mono ?_
  rintro e w5 ⟨rfl, rfl⟩
  refine hK _ _ J ?_
  clear hK K
  refine held_take 3 (.bool true) rfl (by kernel_rfl) (by kernel_rfl) (by kernel_rfl) (fun _ _ _ h => h) (Or.inl ⟨by rfl, fun x j => by go_simp⟩) J (fun K hK => ?_)
  go_simp
  refine hK _ _ ?_
  clear hK K
  refine held_take 4 (.pointer (some ⟨B, 1, none⟩)) rfl (by kernel_rfl) (by kernel_rfl) (by kernel_rfl) (fun _ _ _ h => h) (Or.inl ⟨by rfl, fun x j => by go_simp⟩) J (fun K hK => ?_)
  go_simp
  refine hK _ _ ?_
  clear hK K
  refine held_take 5 (.string f.v) rfl (by kernel_rfl) (by kernel_rfl) (by kernel_rfl) (fun _ _ _ h => h) (Or.inl ⟨by rfl, fun x j => by (have c := j.c1; go_simp)⟩) J (fun K hK => ?_)
  go_simp
  refine hK _ _ ?_
  clear hK K
  refine held_one 6 (by kernel_rfl) (fun K hK => wpOp_in rfl rfl ?_)
  go_simp
  refine (tt _).mono ?_
  rintro e w5 ⟨rfl, rfl⟩
  refine hK _ _ J ?_
  clear hK K
  refine held_take 7 (.bool true) rfl (by kernel_rfl) (by kernel_rfl) (by kernel_rfl) (fun _ _ _ h => h) (Or.inl ⟨by rfl, fun x j => by go_simp⟩) J (fun K hK => ?_)
  go_simp
  refine hK _ _ ?_
  clear hK K
  refine held_take 8 (.bool true) rfl (by kernel_rfl) (by kernel_rfl) (by kernel_rfl) (fun _ _ _ h => h) (Or.inl ⟨by rfl, fun x j => by go_simp⟩) J (fun K hK => ?_)
  go_simp
  refine hK _ _ ?_
  clear hK K
  refine held_take 9 (.pointer (some ⟨B, 1, none⟩)) rfl (by kernel_rfl) (by kernel_rfl) (by kernel_rfl) (fun _ _ _ h => h) (Or.inl ⟨by rfl, fun x j => by go_simp⟩) J (fun K hK => ?_)
  go_simp
  refine hK _ _ ?_
  clear hK K
  refine held_take 10 (.string f.v) rfl (by kernel_rfl) (by kernel_rfl) (by kernel_rfl) (fun _ _ _ h => h) (Or.inl ⟨by rfl, fun x j => by (have c := j.c1; go_simp)⟩) J (fun K hK => ?_)
  go_simp
  refine hK _ _ ?_
  clear hK K
  refine held_take 12 (.pointer (some ⟨B, 1, none⟩)) rfl (by kernel_rfl) (by kernel_rfl) (by kernel_rfl) (fun _ _ _ h => h) (Or.inl ⟨by rfl, fun x j => by go_simp⟩) J (fun K hK => ?_)
  go_simp
  refine hK _ _ ?_
  clear hK K
  refine held_take 13 (.string f.v) rfl (by kernel_rfl) (by kernel_rfl) (by kernel_rfl) (fun _ _ _ h => h) (Or.inl ⟨by rfl, fun x j => by (have c := j.c1; go_simp)⟩) J (fun K hK => ?_)
  go_simp
  refine hK _ _ ?_
  clear hK K
  refine held_one 11 (by kernel_rfl) (fun K hK => wpOp_in rfl rfl ?_)
  go_simp
  refine (tr _).mono ?_
  rintro e w5 ⟨rfl, rfl⟩
  refine hK _ _ J ?_
  clear hK K
  refine held_take 14 (.bool v) rfl (by kernel_rfl) (by kernel_rfl) (by kernel_rfl) (fun _ _ _ h => h) (Or.inl ⟨by rfl, fun x j => by go_simp⟩) J (fun K hK => ?_)
  go_simp
  refine hK _ _ ?_
  clear hK K
  refine held_take 15 (.bool v) rfl (by kernel_rfl) (by kernel_rfl) (by kernel_rfl) (fun _ _ _ h => h) (Or.inl ⟨by rfl, fun x j => by go_simp⟩) J (fun K hK => ?_)
  go_simp
  refine hK _ _ ?_
  clear hK K
  refine held_take 16 (.bool v) rfl (by kernel_rfl) (by kernel_rfl) (by kernel_rfl) (fun _ _ _ h => h) (Or.inl ⟨by rfl, fun x j => by go_simp⟩) J (fun K hK => ?_)
  go_simp
  refine hK _ _ ?_
  clear hK K
  refine wpAnyH_done (by kernel_rfl) ?_ _
  go_upto_region 8 with (fail)
  refine wp_region_held (S := fun z => LnJ w z B B1 B2 f x) (by kernel_rfl) ?_
  change wpAnyH _ _ _ _ _ _ _ _ w7.drew
  replace J := J.drew
  generalize w7.drew = w8 at J ⊢
  refine held_take 0 (.string s) rfl (by kernel_rfl) (by kernel_rfl) (by kernel_rfl) (fun _ _ _ h => h) (Or.inl ⟨by rfl, fun x j => by go_simp⟩) J (fun K hK => ?_)
  go_simp
  refine hK _ _ ?_
  clear hK K
  refine held_take 2 (.string s) rfl (by kernel_rfl) (by kernel_rfl) (by kernel_rfl) (fun _ _ _ h => h) (Or.inl ⟨by rfl, fun x j => by go_simp⟩) J (fun K hK => ?_)
  go_simp
  refine hK _ _ ?_
  clear hK K
  refine held_one 1 (by kernel_rfl) (fun K hK => wpOp_in rfl rfl ?_)
  go_simp
  refine (k1 _).mono ?_
  rintro e w5 ⟨rfl, rfl⟩
  refine hK _ _ J ?_
  clear hK K
  refine held_one 3 (by kernel_rfl) (fun K hK => wpOp_in rfl rfl ?_)
  go_simp
  refine (k2 _).mono ?_
  rintro e w5 ⟨rfl, rfl⟩
  refine hK _ _ J ?_
  clear hK K
  refine held_take 4 (.bool true) rfl (by kernel_rfl) (by kernel_rfl) (by kernel_rfl) (fun _ _ _ h => h) (Or.inl ⟨by rfl, fun x j => by go_simp⟩) J (fun K hK => ?_)
  go_simp
  refine hK _ _ ?_
  clear hK K
  refine held_take 5 (.bool true) rfl (by kernel_rfl) (by kernel_rfl) (by kernel_rfl) (fun _ _ _ h => h) (Or.inl ⟨by rfl, fun x j => by go_simp⟩) J (fun K hK => ?_)
  go_simp
  refine hK _ _ ?_
  clear hK K
  refine held_take 6 (.agg (fdV x)) rfl (by kernel_rfl) (by kernel_rfl) (by kernel_rfl) (fun _ _ _ h => h) (yields_load LX.out rfl rfl rfl) J (fun K hK => ?_)
  go_simp
  refine hK _ _ ?_
  clear hK K
  refine held_take 7 (.agg (fdV x)) rfl (by kernel_rfl) (by kernel_rfl) (by kernel_rfl) (fun _ _ _ h => h) (yields_load LY.out rfl rfl rfl) J (fun K hK => ?_)
  go_simp
  refine hK _ _ ?_
  clear hK K
  refine held_take 8 (.bool true) rfl (by kernel_rfl) (by kernel_rfl) (by kernel_rfl) (fun _ _ _ h => h) (Or.inl ⟨by rfl, fun x j => by go_simp⟩) J (fun K hK => ?_)
  go_simp
  refine hK _ _ ?_
  clear hK K
  refine held_take 9 (.bool true) rfl (by kernel_rfl) (by kernel_rfl) (by kernel_rfl) (fun _ _ _ h => h) (Or.inl ⟨by rfl, fun x j => by go_simp⟩) J (fun K hK => ?_)
  go_simp
  refine hK _ _ ?_
  clear hK K
  refine held_take 10 (.bool true) rfl (by kernel_rfl) (by kernel_rfl) (by kernel_rfl) (fun _ _ _ h => h) (Or.inl ⟨by rfl, fun x j => by go_simp⟩) J (fun K hK => ?_)
  go_simp
  refine hK _ _ ?_
  clear hK K
  refine held_take 11 (.int .i64 er) rfl (by kernel_rfl) (by kernel_rfl) (by kernel_rfl) (fun _ _ _ h => h) (Or.inl ⟨by rfl, fun x j => by go_simp⟩) J (fun K hK => ?_)
  go_simp
  refine hK _ _ ?_
  clear hK K
  refine held_take 12 (.int .i64 er) rfl (by kernel_rfl) (by kernel_rfl) (by kernel_rfl) (fun _ _ _ h => h) (Or.inl ⟨by rfl, fun x j => by go_simp⟩) J (fun K hK => ?_)
  go_simp
  refine hK _ _ ?_
  clear hK K
  refine held_take 13 (.bool true) rfl (by kernel_rfl) (by kernel_rfl) (by kernel_rfl) (fun _ _ _ h => h) (Or.inl ⟨by rfl, fun x j => by go_simp⟩) J (fun K hK => ?_)
  go_simp
  refine hK _ _ ?_
  clear hK K
  refine held_take 14 (.bool true) rfl (by kernel_rfl) (by kernel_rfl) (by kernel_rfl) (fun _ _ _ h => h) (Or.inl ⟨by rfl, fun x j => by go_simp⟩) J (fun K hK => ?_)
  go_simp
  refine hK _ _ ?_
  clear hK K
  refine held_take 15 (.bool true) rfl (by kernel_rfl) (by kernel_rfl) (by kernel_rfl) (fun _ _ _ h => h) (Or.inl ⟨by rfl, fun x j => by go_simp⟩) J (fun K hK => ?_)
  go_simp
  refine hK _ _ ?_
  clear hK K
  refine held_take 16 (.agg (fdV f)) rfl (by kernel_rfl) (by kernel_rfl) (by kernel_rfl) (fun _ _ _ h => h) (yields_load LF.out rfl rfl rfl) J (fun K hK => ?_)
  go_simp
  refine hK _ _ ?_
  clear hK K
  refine held_take 18 (.bool v) rfl (by kernel_rfl) (by kernel_rfl) (by kernel_rfl) (fun _ _ _ h => h) (Or.inl ⟨by rfl, fun x j => by go_simp⟩) J (fun K hK => ?_)
  go_simp
  refine hK _ _ ?_
  clear hK K
  refine held_one 17 (by kernel_rfl) (fun K hK => wpOp_in rfl rfl ?_)
  go_simp
  refine (gd _).mono ?_
  rintro e w6 ⟨rfl, hb⟩
  have Ja := J.below hb
  refine hK _ _ Ja ?_
  clear J hb
  clear hK K
  refine held_take 19 (.bool true) rfl (by kernel_rfl) (by kernel_rfl) (by kernel_rfl) (fun _ _ _ h => h) (Or.inl ⟨by rfl, fun x j => by go_simp⟩) Ja (fun K hK => ?_)
  go_simp
  refine hK _ _ ?_
  clear hK K
  refine held_take 20 (.bool true) rfl (by kernel_rfl) (by kernel_rfl) (by kernel_rfl) (fun _ _ _ h => h) (Or.inl ⟨by rfl, fun x j => by go_simp⟩) Ja (fun K hK => ?_)
  go_simp
  refine hK _ _ ?_
  clear hK K
  refine held_take 21 (.bool true) rfl (by kernel_rfl) (by kernel_rfl) (by kernel_rfl) (fun _ _ _ h => h) (Or.inl ⟨by rfl, fun x j => by go_simp⟩) Ja (fun K hK => ?_)
  go_simp
  refine hK _ _ ?_
  clear hK K
  refine held_take 22 (.agg (fdV f)) rfl (by kernel_rfl) (by kernel_rfl) (by kernel_rfl) (fun _ _ _ h => h) (yields_load LF.out rfl rfl rfl) Ja (fun K hK => ?_)
  go_simp
  refine hK _ _ ?_
  clear hK K
  refine held_take 24 (.pointer (some ⟨B, 0, none⟩)) rfl (by kernel_rfl) (by kernel_rfl) (by kernel_rfl) (fun _ _ _ h => h) (Or.inl ⟨by rfl, fun x j => by go_simp⟩) Ja (fun K hK => ?_)
  go_simp
  refine hK _ _ ?_
  clear hK K
  refine held_take 25 (.string f.n) rfl (by kernel_rfl) (by kernel_rfl) (by kernel_rfl) (fun _ _ _ h => h) (Or.inl ⟨by rfl, fun x j => by (have c := j.c0; go_simp)⟩) Ja (fun K hK => ?_)
  go_simp
  refine hK _ _ ?_
  clear hK K
  refine held_take 26 (.string (f.n ++ ⟨#[58, 32]⟩)) rfl (by kernel_rfl) (by kernel_rfl) (by kernel_rfl) (fun _ _ _ h => h) (Or.inl ⟨by rfl, fun x j => by (go_simp; omega)⟩) Ja (fun K hK => ?_)
  go_simp
  refine hK _ _ ?_
  clear hK K
  refine held_take 27 (.pointer (some ⟨B, 1, none⟩)) rfl (by kernel_rfl) (by kernel_rfl) (by kernel_rfl) (fun _ _ _ h => h) (Or.inl ⟨by rfl, fun x j => by go_simp⟩) Ja (fun K hK => ?_)
  go_simp
  refine hK _ _ ?_
  clear hK K
  refine held_take 28 (.string f.v) rfl (by kernel_rfl) (by kernel_rfl) (by kernel_rfl) (fun _ _ _ h => h) (Or.inl ⟨by rfl, fun x j => by (have c := j.c1; go_simp)⟩) Ja (fun K hK => ?_)
  go_simp
  refine hK _ _ ?_
  clear hK K
  refine held_take 29 (.string (f.n ++ ⟨#[58, 32]⟩ ++ f.v)) rfl (by kernel_rfl) (by kernel_rfl) (by kernel_rfl) (fun _ _ _ h => h) (Or.inl ⟨by rfl, fun x j => by (go_simp; omega)⟩) Ja (fun K hK => ?_)
  go_simp
  refine hK _ _ ?_
  clear hK K
  refine held_one 23 (by kernel_rfl) (fun K hK => wpOp_in rfl rfl ?_)
  go_simp
  refine (pr _).mono ?_
  rintro e w6 ⟨rfl, hb⟩
  have Jb := Ja.below hb
  refine hK _ _ Jb ?_
  clear Ja hb
  clear hK K
  refine held_take 30 (.bool true) rfl (by kernel_rfl) (by kernel_rfl) (by kernel_rfl) (fun _ _ _ h => h) (Or.inl ⟨by rfl, fun x j => by go_simp⟩) Jb (fun K hK => ?_)
  go_simp
  refine hK _ _ ?_
  clear hK K
  refine held_take 31 (.bool true) rfl (by kernel_rfl) (by kernel_rfl) (by kernel_rfl) (fun _ _ _ h => h) (Or.inl ⟨by rfl, fun x j => by go_simp⟩) Jb (fun K hK => ?_)
  go_simp
  refine hK _ _ ?_
  clear hK K
  refine held_take 32 (.bool true) rfl (by kernel_rfl) (by kernel_rfl) (by kernel_rfl) (fun _ _ _ h => h) (Or.inl ⟨by rfl, fun x j => by go_simp⟩) Jb (fun K hK => ?_)
  go_simp
  refine hK _ _ ?_
  clear hK K
  refine wpAnyH_done (by kernel_rfl) ?_ _
  go_wp2
  go_ret
  exact ⟨rfl, Jb.bel⟩
theorem walkLines (s : ByteArray) (f : Fd) (w0 : s.size ≤ maxLen) (o : f.Ok) (w : World) :
    Calls Tryd.prog 3 #[.string s, .agg (fdV f)] w fun e w' => e = .returned (.bool true) ∧ Below w.heap.size w w' := by
  unfold maxLen at w0
  by_cases h : 4096 < s.size ∨ 4096 < f.n.size ∨ 4096 < f.v.size
  · exact lines_big s f w w0 o h
  · have h1 : s.size ≤ 4096 := by omega
    have h2 : f.n.size ≤ 4096 := by omega
    have h3 : f.v.size ≤ 4096 := by omega
    cases a : isTok (ls f.n) with
    | false => exact lines_a s f w h1 h2 h3 a
    | true =>
      cases b : isTxt (ls f.v) with
      | false => exact lines_b s f w h1 h2 h3 a b
      | true => exact lines_c s f w h1 h2 h3 a b _ rfl
end Go.Proofs.YtdimjeajgmlfkaaDoor.Fi
