/-
  Contracts of the library's CutSuffix and Contains at the byte 13, and of Clone.
-/
import Derived.Test.YtdldoklkenhopaaDoorFiCut
namespace Go.Proofs.YtdldoklkenhopaaDoor.Fi
open Go.RowKit Go.PlainAid
open Hx
set_option linter.unusedVariables false
set_option maxRecDepth 20000
set_option linter.unusedSimpArgs false

theorem hasSuf_none (s : ByteArray) (w : World) (h : s.size = 0) :
    Calls Tryd.prog 64 #[.string s, .string ⟨#[13]⟩] w fun e w' => e = .returned (.bool false) ∧ w = w' := by
  go_enter Tryd.func64, Tryd.ntmps64
  go_wp2
  all_goals go_ret
  all_goals exact ⟨rfl, rfl⟩
theorem hasSuf_some (s : ByteArray) (n : Nat) (v : Bool) (w : World) (h : s.size = n + 1) (hs : s.size ≤ 1099511627776) (hv : ((s.extract n s.size).toList == [13]) = v) :
    Calls Tryd.prog 64 #[.string s, .string ⟨#[13]⟩] w fun e w' => e = .returned (.bool v) ∧ w = w' := by
  have i1 : (s.size : Int) - 1 = (n : Int) := by omega
  have i2 : (n : Int) ≤ (s.size : Int) := by omega
  have i3 : (1 : Int) ≤ (s.size : Int) := by omega
  clear h
  go_enter Tryd.func64, Tryd.ntmps64
  go_wp2
  all_goals go_ret
  all_goals exact ⟨rfl, rfl⟩
theorem last_one {s : ByteArray} {n : Nat} (h : s.size = n + 1) : ls (s.extract n s.size) = (ls s).drop n := by
  rw [ls_extract]
  exact List.take_of_length_le (by rw [List.length_drop, ls_len]; omega)
theorem suf_yes (s : ByteArray) (x : List UInt8) (w : World) (hs : s.size ≤ 1099511627776) (h : ls s = x ++ [13]) :
    Calls Tryd.prog 48 #[.string s, .string ⟨#[13]⟩] w fun e w' => e = .returned (.tuple #[.string (tx x), .bool true]) ∧ w = w' := by
  have hz : s.size = x.length + 1 := by rw [← ls_len, h]; simp
  have e1 : s.extract 0 x.length = tx x := ls_inj (by rw [ls_extract, ls_tx, h]; simp)
  have r := hasSuf_some s x.length true w hz hs (by rw [ls_toList, last_one hz, h]; simp)
  have i1 : (s.size : Int) - 1 = (x.length : Int) := by omega
  have i2 : (x.length : Int) ≤ (s.size : Int) := by omega
  have E1 := Lib.hid e1
  clear h hz e1
  have low : Calls Tryd.prog 56 #[.string s, .string ⟨#[13]⟩] w fun e w' => e = .returned (.tuple #[.string (tx x), .bool true]) ∧ w = w' := by
    go_enter Tryd.func56, Tryd.ntmps56
    go_wp2_with fail
    refine r.mono ?_
    rintro e w' ⟨rfl, rfl⟩
    clear r
    go_wp2
    go_ret2
    exact ⟨by rw [← E1.out]; rfl, rfl⟩
  clear r i1 i2
  generalize tx x = x1 at *
  go_enter Tryd.func48, Tryd.ntmps48
  go_wp2_with fail
  refine low.mono ?_
  rintro e w' ⟨rfl, rfl⟩
  clear low
  go_wp2
  go_ret2
  exact ⟨rfl, rfl⟩
theorem suf_no (s : ByteArray) (w : World) (hs : s.size ≤ 1099511627776) (h : (ls s).getLast? ≠ some 13) :
    Calls Tryd.prog 48 #[.string s, .string ⟨#[13]⟩] w fun e w' => e = .returned (.tuple #[.string s, .bool false]) ∧ w = w' := by
  have r : Calls Tryd.prog 64 #[.string s, .string ⟨#[13]⟩] w fun e w' => e = .returned (.bool false) ∧ w = w' := by
    by_cases h0 : s.size = 0
    · exact hasSuf_none s w h0
    · obtain ⟨n, hn⟩ : ∃ n, s.size = n + 1 := ⟨s.size - 1, by omega⟩
      refine hasSuf_some s n false w hn hs ?_
      rw [ls_toList, last_one hn, beq_eq_false_iff_ne]
      intro e
      apply h
      have : ls s = (ls s).take n ++ [13] := by rw [← e, List.take_append_drop]
      rw [this]; simp
  clear h
  have low : Calls Tryd.prog 56 #[.string s, .string ⟨#[13]⟩] w fun e w' => e = .returned (.tuple #[.string s, .bool false]) ∧ w = w' := by
    go_enter Tryd.func56, Tryd.ntmps56
    go_wp2_with fail
    refine r.mono ?_
    rintro e w' ⟨rfl, rfl⟩
    clear r
    go_wp2
    go_ret2
    exact ⟨rfl, rfl⟩
  clear r
  go_enter Tryd.func48, Tryd.ntmps48
  go_wp2_with fail
  refine low.mono ?_
  rintro e w' ⟨rfl, rfl⟩
  clear low
  go_wp2
  go_ret2
  exact ⟨rfl, rfl⟩
theorem has13_any (s : ByteArray) (w : World) (hs : s.size ≤ 1099511627776) :
    Calls Tryd.prog 49 #[.string s, .string ⟨#[13]⟩] w fun e w' => e = .returned (.bool (decide ((13 : UInt8) ∈ ls s))) ∧ w = w' := by
  have r := index_any s 13 w hs
  have hv : decide (0 ≤ firstIdx s 13) = decide ((13 : UInt8) ∈ ls s) := by
    rcases idx_cases s 13 with ⟨h1, h2⟩ | ⟨i, h1, _, h3⟩
    · rw [h1, decide_eq_false (cutB_none.1 h2)]; rfl
    · rw [h1, decide_eq_true (show (0 : Int) ≤ (i : Int) by omega)]
      have := (cutB_some h3).1
      rw [decide_eq_true (by rw [this]; simp)]
  generalize decide ((13 : UInt8) ∈ ls s) = v at *
  generalize firstIdx s 13 = z at *
  subst hv
  have r2 : Calls Tryd.prog 57 #[.string s, .string ⟨#[13]⟩] w fun e w' => e = .returned (.int .i64 z) ∧ w = w' := by
    go_enter Tryd.func57, Tryd.ntmps57
    go_wp2_with fail
    refine r.mono ?_
    rintro e w' ⟨rfl, rfl⟩
    clear r
    go_wp2
    go_ret
    exact ⟨rfl, rfl⟩
  clear r
  go_enter Tryd.func49, Tryd.ntmps49
  go_wp2_with fail
  refine r2.mono ?_
  rintro e w' ⟨rfl, rfl⟩
  clear r2
  go_wp2
  go_ret
  exact ⟨rfl, rfl⟩

/-! ### Clone -/
section
variable {P : Program} {ops : Array Oper} {rest : List Oper} {o : Oper} {a : Act} {w w' : World} {Q : Exit → Act → World → Prop} {t u : TypeId} {x y : Operand} {v vy r : Value}
theorem wpl_copy (hr : ∀ ty, (Builtin.copy_ #[t, u] ty #[v, vy]).run P w = .ok r w') (hgd : o.guard = none) (hop : o.op = .call { callee := .builtin .copy, args := #[x, y], argTypes := #[t, u] }) (hx : a.eval x = v) (hy : a.eval y = vy) (h : wpList P ops Q rest (a.put o.dst r) w') : wpList P ops Q (o :: rest) a w :=
  wpList_plain hgd fun _ hK => by
    unfold Oper.wp execOp
    simp only [hop, resolve, invoke, builtin, Sem.run_bind, Sem.run_pure, Result.andThen_ok, List.map_toArray, List.map_cons, List.map_nil, hx, hy, hr]
    exact hK _ _ h
end
theorem empty_of {s : ByteArray} (h : s.size = 0) : s = ⟨#[]⟩ := by
  apply ByteArray.ext
  exact Array.eq_empty_of_size_eq_zero h
set_option maxHeartbeats 2000000 in
theorem clone_low (s : ByteArray) (w : World) (hs : s.size ≤ 140737488355328) :
    Calls Tryd.prog 40 #[.string s] w fun e w' => e = .returned (.string s) ∧ Below w.heap.size w w' := by
  by_cases h0 : s.size = 0
  · have e := empty_of h0
    subst e
    clear h0
    go_enter Tryd.func40, Tryd.ntmps40
    go_wp2
    go_ret
    exact ⟨rfl, Below.refl _ _⟩
  · obtain ⟨i0, hi, hz0, hz1, hz2⟩ := info_parts info5
    have l1 : ((s.size : Int) == 0) = false := by rw [beq_eq_false_iff_ne]; omega
    have l2 : ¬ (s.size : Int) = 0 := by omega
    go_enter Tryd.func40, Tryd.ntmps40
    go_upto_region 4 with (at_make; refine wpList_make_full _ rfl _ _ 57 rfl w.heap.size 5 i0 (.int .u8 0) 1 Tryd.underlying57 hi hz0 hz1 .i64 .i64 _ _ s.size rfl rfl (by omega) (by omega) (by rw [hz2]; omega) (by unfold maxLen; omega) (Nat.le_refl _) ?_; intro w1 hown hgrow)
    obtain ⟨cur, hg, hcs⟩ : ∃ cur, w1.heap[w.heap.size]? = some (.cells cur 5 (0, 0)) ∧ cur.size = s.size := by
      rcases hown.2 with ⟨e, _⟩ | ⟨g, cap, cur, e, _, hg, _, _, hc, _⟩
      · cases e
      · injection e with e1 _ e3
        injection e1 with e1
        injection e1 with e1
        subst e1 e3
        exact ⟨cur, hg, by simpa using hc⟩
    have F : Below w.heap.size w w1 := (Below.refl _ _).grown hgrow (Nat.le_refl _) (fun k h => by cases h)
    have hcp := fun ty => Lib.run_copy_row_string (P := Tryd.prog) w1 57 9 ty 5 w.heap.size 0 s.size s.size s cur 5 Tryd.underlying57 (by kernel_rfl) hg (Nat.le_refl _) (by omega)
    have e2 : (cur.toList.take 0 ++ Lib.byteCells s.data.toList ++ cur.toList.drop (0 + s.size)).toArray = (Lib.byteCells s.data.toList).toArray := by
      rw [Nat.zero_add, List.drop_of_length_le (by simp; omega)]
      simp
    rw [e2] at hcp
    have H2 := setRow_heap w1 w.heap.size cur (Lib.byteCells s.data.toList).toArray 5 (0, 0) hg
    have F2 : Below w.heap.size w (w1.setRow w.heap.size (Lib.byteCells s.data.toList).toArray) := below_row F (Nat.le_refl _)
    clear e2 hg hown hgrow F hcs
    generalize w1.setRow w.heap.size (Lib.byteCells s.data.toList).toArray = w2 at hcp H2 F2
    have hlen : s.data.toList.length = s.size := by simp
    have hUS := Lib.run_unsafeString_row (P := Tryd.prog) w2 77 3 9 5 Tryd.underlying77 (by kernel_rfl) w.heap.size s.size (by simp [World.shape?, H2, Lib.byteCells]) s.data.toList (by intro c; rw [c] at hlen; simp at hlen; omega) (by omega) (by omega) (by
      intro j x hx
      rw [add_at, Nat.zero_add, cell_of_row _ _ _ _ _ _ H2]
      simp [Lib.byteCells, hx])
    rw [hlen] at hUS
    have e3 : (⟨s.data.toList.toArray⟩ : ByteArray) = s := by simp
    rw [e3] at hUS
    have F3 := Lib.below_freeze F2 (p := ⟨w.heap.size, 0, none⟩) (Nat.le_refl _) s.size
    clear e3 hlen F2 H2
    have l3 : (0 : Int) < (s.size : Int) := by omega
    go_wp2_with (refine wpl_copy hcp rfl rfl rfl rfl ?_)
    go_ret
    exact ⟨rfl, F3⟩
theorem clone_any (s : ByteArray) (w : World) (hs : s.size ≤ 140737488355328) :
    Calls Tryd.prog 23 #[.string s] w fun e w' => e = .returned (.string s) ∧ Below w.heap.size w w' := by
  go_enter Tryd.func23, Tryd.ntmps23
  go_wp2_with fail
  refine (clone_low s _ hs).mono ?_
  rintro e w1 ⟨rfl, G⟩
  go_wp2
  go_ret
  exact ⟨rfl, G⟩
end Go.Proofs.YtdldoklkenhopaaDoor.Fi
