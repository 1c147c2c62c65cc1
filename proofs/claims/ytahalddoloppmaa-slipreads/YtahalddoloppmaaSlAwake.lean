/-
  The document's examples of layer 8: awake answers true; great.
-/
import Derived.Test.YtahalddoloppmaaSlAll
namespace Go.Proofs.Ytahalddoloppmaa.Sl
open Go.RowKit Go.PlainAid Go.Proofs.Ytahalddoloppmaa.Cr
set_option linter.unusedVariables false
set_option linter.unusedSimpArgs false

def greatB (x : Sp) : Bool := decide (500 < x.repo.size) || (decide (500 < x.tag.size) || decide (500 < x.ty.size))
set_option maxHeartbeats 1000000 in
theorem great_any (x : Sp) (w : World) (ok : Okay x) :
    Calls Try.prog 8 #[.agg (slV x)] w fun e w' => e = .returned (.bool (greatB x)) ∧ Below w.heap.size w w' := by
  have X := At.new w 25 (slV x)
  have F : Below w.heap.size w (w.alloc (.cells (slV x) 25)) := (Below.refl _ _).alloc (Nat.le_refl _) _
  have z1 := ok.repo; have z2 := ok.tag; have z3 := ok.ty; have hd := ok.dig.len
  obtain ⟨r, hr⟩ : ∃ r, greatB x = r := ⟨_, rfl⟩
  rw [hr]
  have HR := Lib.hid hr
  clear hr
  go_enter Try.func8, Try.ntmps8
  go_upto_region 1 with (fail)
  generalize w.alloc (.cells (slV x) 25) = w1 at X F ⊢
  generalize hB : w.heap.size = B at X ⊢
  have c1 : w1.cell? ⟨B, 1, none⟩ = some (.string x.repo) := X.cell 1
  have c2 : w1.cell? ⟨B, 2, none⟩ = some (.string x.tag) := X.cell 2
  have c35 : w1.cell? ⟨B, 35, none⟩ = some (.string x.ty) := (X.cell 35).trans (sl35 hd)
  clear hB
  unfold greatB at HR
  by_cases h1 : 500 < x.repo.size
  · have l1 : (500 : Int) < (x.repo.size : Int) := by omega
    have e : r = true := by rw [← HR.out]; simp [h1]
    subst e
    go_wp2
    go_ret
    exact ⟨rfl, F⟩
  · have l1 : ¬ (500 : Int) < (x.repo.size : Int) := by omega
    by_cases h2 : 500 < x.tag.size
    · have l2 : (500 : Int) < (x.tag.size : Int) := by omega
      have e : r = true := by rw [← HR.out]; simp [h2]
      subst e
      go_wp2
      go_ret
      exact ⟨rfl, F⟩
    · have l2 : ¬ (500 : Int) < (x.tag.size : Int) := by omega
      by_cases h3 : 500 < x.ty.size
      · have l3 : (500 : Int) < (x.ty.size : Int) := by omega
        have e : r = true := by rw [← HR.out]; simp [h3]
        subst e
        go_wp2
        go_ret
        exact ⟨rfl, F⟩
      · have l3 : ¬ (500 : Int) < (x.ty.size : Int) := by omega
        have e : r = false := by rw [← HR.out]; simp [h1, h2, h3]
        subst e
        go_wp2
        go_ret
        exact ⟨rfl, F⟩
def d7 : List Nat := 7 :: List.replicate 31 0
def x0 : Sp := ⟨5, none8, none8, d7, none8, 0, 0⟩
theorem d7_dig : Dig d7 := ⟨by simp [d7], by intro b hb; simp [d7] at hb; omega⟩
theorem x0_can : Can x0 := ⟨by decide, by decide, fun _ => ⟨rfl, rfl⟩, by decide, fun _ => ⟨rfl, rfl⟩, fun _ => rfl, by decide, by decide, by decide, d7_dig⟩
theorem x0_len : (bodyL x0).length = 33 := by decide
theorem x0_lit : (#[.int .i64 5, .string ⟨#[]⟩, .string ⟨#[]⟩, .int .u8 7, .int .u8 0, .int .u8 0, .int .u8 0, .int .u8 0, .int .u8 0, .int .u8 0, .int .u8 0, .int .u8 0, .int .u8 0, .int .u8 0, .int .u8 0, .int .u8 0, .int .u8 0, .int .u8 0, .int .u8 0, .int .u8 0, .int .u8 0, .int .u8 0, .int .u8 0, .int .u8 0, .int .u8 0, .int .u8 0, .int .u8 0, .int .u8 0, .int .u8 0, .int .u8 0, .int .u8 0, .int .u8 0, .int .u8 0, .int .u8 0, .int .u8 0, .string ⟨#[]⟩, .int .i64 0, .int .i64 0] : Array Value) = slV x0 := by
  simp [slV, slL, dV, x0, d7, none8, List.replicate]
theorem x0_keep (w : World) :
    ∃ X, Stores Try.prog (w.alloc (.cells #[.int .i64 0, .string ⟨#[]⟩, .string ⟨#[]⟩, .int .u8 0, .int .u8 0, .int .u8 0, .int .u8 0, .int .u8 0, .int .u8 0, .int .u8 0, .int .u8 0, .int .u8 0, .int .u8 0, .int .u8 0, .int .u8 0, .int .u8 0, .int .u8 0, .int .u8 0, .int .u8 0, .int .u8 0, .int .u8 0, .int .u8 0, .int .u8 0, .int .u8 0, .int .u8 0, .int .u8 0, .int .u8 0, .int .u8 0, .int .u8 0, .int .u8 0, .int .u8 0, .int .u8 0, .int .u8 0, .int .u8 0, .int .u8 0, .string ⟨#[]⟩, .int .i64 0, .int .i64 0] 25)) 25 w.heap.size 0 #[.int .i64 5, .string ⟨#[]⟩, .string ⟨#[]⟩, .int .u8 7, .int .u8 0, .int .u8 0, .int .u8 0, .int .u8 0, .int .u8 0, .int .u8 0, .int .u8 0, .int .u8 0, .int .u8 0, .int .u8 0, .int .u8 0, .int .u8 0, .int .u8 0, .int .u8 0, .int .u8 0, .int .u8 0, .int .u8 0, .int .u8 0, .int .u8 0, .int .u8 0, .int .u8 0, .int .u8 0, .int .u8 0, .int .u8 0, .int .u8 0, .int .u8 0, .int .u8 0, .int .u8 0, .int .u8 0, .int .u8 0, .int .u8 0, .string ⟨#[]⟩, .int .i64 0, .int .i64 0] X ∧ At X w.heap.size 25 (slV x0) ∧ Below w.heap.size w X ∧ X.heap.size = w.heap.size + 1 := by
  rw [x0_lit]
  exact x_keep w d7_dig.len
theorem zero_not : ¬ Can Sp.zero := fun h => by have := h.k; have e : Sp.zero.k = 0 := rfl; omega
theorem write_zero (w : World) : Calls Try.prog 9 #[.agg #[.int .i64 0, .string ⟨#[]⟩, .string ⟨#[]⟩, .int .u8 0, .int .u8 0, .int .u8 0, .int .u8 0, .int .u8 0, .int .u8 0, .int .u8 0, .int .u8 0, .int .u8 0, .int .u8 0, .int .u8 0, .int .u8 0, .int .u8 0, .int .u8 0, .int .u8 0, .int .u8 0, .int .u8 0, .int .u8 0, .int .u8 0, .int .u8 0, .int .u8 0, .int .u8 0, .int .u8 0, .int .u8 0, .int .u8 0, .int .u8 0, .int .u8 0, .int .u8 0, .int .u8 0, .int .u8 0, .int .u8 0, .int .u8 0, .string ⟨#[]⟩, .int .i64 0, .int .i64 0]] w fun e w' => e = .returned (.tuple #[.string ⟨#[]⟩, .int .i64 1]) ∧ Below w.heap.size w w' := by
  rw [zslip]
  exact write_no Sp.zero w ⟨by decide, by decide, by decide, zeros_dig⟩ zero_not
set_option maxRecDepth 100000 in
set_option maxHeartbeats 4000000 in
theorem awake_any (w : World) : Calls Try.prog 7 #[] w fun e w' => e = .returned (.bool true) ∧ Below w.heap.size w w' := by
  obtain ⟨S, hS, hSb⟩ : ∃ S, S = strOf (recL (bodyL x0)) ∧ bl S = recL (bodyL x0) := ⟨_, rfl, bl_strOf (rec_lt (body_lt d7_dig))⟩
  have hSz : S.size = 39 := by rw [bl_size hSb, rec_len, x0_len]
  have r1 : RD (bl (S ++ ⟨#[109, 111, 114, 101]⟩)) = (x0, 39, 0) := by
    rw [bl_append, hSb, rd_rec x0_can, rec_len, x0_len]; rfl
  have r2 : RD (bl (S.extract 0 38)) = (Sp.zero, 0, 17) := by
    rw [bl_extract, List.drop_zero, hSb]
    exact rd_cut x0_can (by rw [rec_len, x0_len]; decide)
  have r3 : Reads (bl (S ++ S ++ ⟨#[120]⟩)) [x0, x0] 78 := by
    rw [bl_append, bl_append, hSb]
    have := reads_recs (xs := [x0, x0]) (t := bl ⟨#[120]⟩) (by intro x hx; simp at hx; subst hx; exact x0_can) (by rw [rd_few (by decide)]; decide)
    rw [recs_cons, recs_one, List.length_append, rec_len, x0_len] at this
    exact this
  have R1 := Lib.hid r1; have R2 := Lib.hid r2; have R3 := Lib.hid r3; have HS := Lib.hid hS; have HSZ := Lib.hid hSz
  clear r1 r2 r3 hS hSb hSz
  obtain ⟨w1, S1, X1, F, Z1⟩ := x0_keep w
  clear Z1
  go_enter Try.func7, Try.ntmps7
  go_upto_region 2 with (refine wpl_store S1 rfl rfl rfl rfl rfl ?_)
  clear S1
  obtain ⟨B, hB⟩ : ∃ B, B = w.heap.size := ⟨_, rfl⟩
  rw [← hB] at X1 ⊢
  clear hB
  have od := d7_dig.len
  have LX := sl_loads X1 od
  go_wp2_with (refine wpl_load LX rfl rfl rfl ?_)
  refine (write_yes x0 _ (can_okay x0_can) x0_can).mono ?_
  rintro e w2 ⟨rfl, G⟩
  rw [← HS.out]
  replace X1 := X1.old G
  replace F := F.trans (G.mono F.size)
  clear G LX
  have hz0 : S.size = 39 := HSZ.out
  have hm : (S ++ ⟨#[109, 111, 114, 101]⟩ : ByteArray).size ≤ 1099511627776 := by rw [ByteArray.size_append, hz0]; decide
  have hm2 : (S.extract 0 38).size ≤ 1099511627776 := by rw [ByteArray.size_extract, hz0]; decide
  have hm3 : (S ++ S ++ ⟨#[120]⟩ : ByteArray).size ≤ 1073741824 := by rw [ByteArray.size_append, ByteArray.size_append, hz0]; decide
  have HM := Lib.hid hm; have HM2 := Lib.hid hm2; have HM3 := Lib.hid hm3
  clear hm hm2 hm3
  have i39 : (S.size : Int) = 39 := by omega
  clear hz0
  go_wp2_with fail
  refine (read_any _ _ HM.out).mono ?_
  rintro e w3 ⟨rfl, G⟩
  rw [R1.out]
  replace X1 := X1.old G
  replace F := F.trans (G.mono F.size)
  clear G
  obtain ⟨w4, S4, X4, G4, Z4⟩ := x_keep w3 (y := x0) od
  replace X1 := X1.old G4
  replace F := F.trans (G4.mono F.size)
  clear G4 Z4
  go_upto_region 6 with (refine wpl_store S4 rfl rfl rfl rfl rfl ?_)
  clear S4
  generalize w3.heap.size = C at X4 ⊢
  go_wp2_with fail
  refine (read_any _ _ HM2.out).mono ?_
  rintro e w5 ⟨rfl, G⟩
  rw [R2.out]
  replace X1 := X1.old G
  replace X4 := X4.old G
  replace F := F.trans (G.mono F.size)
  clear G
  obtain ⟨w6, S6, X6, G6, Z6⟩ := x_keep w5 (y := Sp.zero) zeros_dig.len
  replace X1 := X1.old G6
  replace X4 := X4.old G6
  replace F := F.trans (G6.mono F.size)
  clear G6 Z6 X6
  go_upto_region 7 with (refine wpl_store S6 rfl rfl rfl rfl rfl ?_)
  clear S6
  generalize w5.heap.size = C2
  go_wp2_with fail
  refine (write_zero _).mono ?_
  rintro e w7 ⟨rfl, G⟩
  replace X1 := X1.old G
  replace X4 := X4.old G
  replace F := F.trans (G.mono F.size)
  clear G
  go_wp2_with fail
  refine (all_any _ _ HM3.out).mono ?_
  rintro e w8 ⟨xs, n, v, rfl, hv, hr, G⟩
  obtain ⟨rfl, rfl⟩ := reads_one R3.out hr
  obtain ⟨base, cap, rfl, _, _⟩ := hv.is
  replace X1 := X1.old G
  replace X4 := X4.old G
  replace F := F.trans (G.mono F.size)
  clear G hv hr
  have L1 := sl_loads X1 od
  have L4 := sl_loads X4 od
  have q1 : ∀ y, (Op.equalIn 10000 25 (.agg (slV x0)) (.agg (slV x0))).run Try.prog y = .ok true y := fun y => by
    have := eq_slip d7_dig d7_dig (x := x0) (y := x0) y
    simpa using this
  go_wp2_with (first | refine wpl_load_in L4 rfl rfl rfl ?_ | refine wpl_load_in L1 rfl rfl rfl ?_)
  refine (good_any x0 _ (can_okay x0_can)).mono ?_
  rintro e w9 ⟨rfl, G⟩
  rw [canB_yes x0_can]
  replace F := F.trans (G.mono F.size)
  clear G L1 L4 X1 X4
  go_wp2
  go_ret
  exact ⟨rfl, F⟩
end Go.Proofs.Ytahalddoloppmaa.Sl
