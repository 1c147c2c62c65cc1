/-
  The walk of OutletExact.
-/
import Derived.Test.YtdldoklkenhopaaDoorOuTwo
import Derived.Test.YtdldoklkenhopaaDoorOuRef2
namespace Go.Proofs.YtdldoklkenhopaaDoor.Ou
open Go.RowKit Go.PlainAid
open Hx Fi Ch In
set_option linter.unusedVariables false
set_option maxRecDepth 20000
set_option linter.unusedSimpArgs false

theorem ne_false {a b : Int} (h : ¬ a = b) : (a == b) = false := beq_eq_false_iff_ne.2 h
theorem int_self (a : Int) : (a == a) = true := by simp
theorem bo_in {n : Int} (h1 : 100 ≤ n) (h2 : n ≤ 199) : boF n false = true := by unfold boF; simp [h1, h2]
theorem bo_no {n : Int} (h : ¬ (100 ≤ n ∧ n ≤ 199)) (h4 : ¬ n = 204) (h3 : ¬ n = 304) : boF n false = false := by unfold boF; simp [h3, h4]; omega
theorem bo_head (n : Int) : boF n true = true := rfl
set_option maxHeartbeats 4000000 in
theorem bigOutletExact (w : World) (v : Value) (xs : List Fi.Fd) (st : Int) (m t : ByteArray) (hv : FdsAt w v xs) (hl : xs.length ≤ 9223372036854775807) (hm : m.size ≤ 140737488355328) (ht : t.size ≤ 140737488355328) (h : 60 < xs.length ∨ 8192 < m.size ∨ 8192 < t.size) :
    Calls Tryd.prog 3 #[.int .i64 st, .agg #[.string m, .string t], v] w fun e w' => e = .returned (.bool true) ∧ Below w.heap.size w w' := by
  have J := OuJ.new w m t
  obtain ⟨base, cap, rfl, _, _⟩ := hv.is
  clear hv
  obtain ⟨n, hn⟩ : ∃ n, n = xs.length := ⟨_, rfl⟩
  rw [← hn] at h hl ⊢
  clear hn
  have hc : (60 : Int) < (n : Int) ∨ (¬ (60 : Int) < (n : Int) ∧ (8192 : Int) < (m.size : Int)) ∨ (¬ (60 : Int) < (n : Int) ∧ ¬ (8192 : Int) < (m.size : Int) ∧ (8192 : Int) < (t.size : Int)) := by omega
  clear h
  rcases hc with d1 | ⟨d1, d2⟩ | ⟨d1, d2, d3⟩
  all_goals
    go_enter Tryd.func3, Tryd.ntmps3
    go_upto_region 1 with (fail)
    generalize w.alloc (.cells #[.string m, .string t] 22) = X at J ⊢
    generalize w.heap.size = B at J ⊢
    go_wp2_with fail
    refine (awake_any _).mono ?_
    rintro e w1 ⟨rfl, F1⟩
    replace J := J.below F1
    clear F1
    have c0 := J.c0
    have c1 := J.c1
    go_wp2
    go_ret
    exact ⟨rfl, J.bel⟩
set_option maxRecDepth 200000 in
set_option maxHeartbeats 16000000 in
theorem mainOutletExact (w : World) (v : Value) (xs : List Fi.Fd) (st : Int) (m t : ByteArray) (hv : FdsAt w v xs) (h60 : xs.length ≤ 60) (hm : m.size ≤ 8192) (ht : t.size ≤ 8192) (hr : Fi.Reach xs) :
    Calls Tryd.prog 3 #[.int .i64 st, .agg #[.string m, .string t], v] w fun e w' => e = .returned (.bool true) ∧ Below w.heap.size w w' := by
  have J := OuJ.new w m t
  obtain ⟨base, cap, rfl, _, _⟩ := hv.is
  have HV := Lib.hid hv
  have HR := Lib.hid hr
  clear hv hr
  obtain ⟨n, hn⟩ : ∃ n, n = xs.length := ⟨_, rfl⟩
  have hn60 : n ≤ 60 := by omega
  rw [← hn] at HV ⊢
  have HN := Lib.hid hn
  clear hn h60
  have d1 : ¬ (60 : Int) < (n : Int) := by omega
  have d2 : ¬ (8192 : Int) < (m.size : Int) := by omega
  have d3 : ¬ (8192 : Int) < (t.size : Int) := by omega
  have ST0 := Lib.hid (show ShTo xs 0 from fun x hx => by simp at hx)
  go_enter Tryd.func3, Tryd.ntmps3
  go_upto_region 1 with (fail)
  generalize w.alloc (.cells #[.string m, .string t] 22) = X at J ⊢
  generalize w.heap.size = B at J ⊢
  go_wp2_with fail
  refine (awake_any _).mono ?_
  rintro e w1 ⟨rfl, F1⟩
  replace J := J.below F1
  clear F1
  have c0 := J.c0
  have c1 := J.c1
  go_wp2
  clear c0 c1
  go_loop [7] (fun i => ∃ k : Nat, k ≤ n ∧ i = .int .i64 k ∧ Hid (ShTo xs k)) (fun i => n - (intOf i).toNat)
  case atStart => exact ⟨0, Nat.zero_le _, rfl, ST0⟩
  case round =>
    clear ST0
    obtain ⟨k, hk, rfl, ST⟩ := hrel
    by_cases hlt : k < n
    · obtain ⟨x, hx⟩ : ∃ x, xs[k]? = some x := ⟨xs[k]'(by have := HN.out; omega), List.getElem?_eq_getElem _⟩
      obtain ⟨a, rfl, ha, _, c0, c1'⟩ := (HV.out.below J.bel).loads hx
      obtain ⟨r1, r2⟩ := HR.out x (List.mem_of_getElem? hx)
      have l1 : (k : Int) < (n : Int) := by omega
      have c1 : w1.cell? { (a.add (k * 2)) with off := (a.add (k * 2)).off + 1, spot := none } = some (.string x.v) := by rw [nxt]; exact c1'
      clear c1'
      have HX := Lib.hid hx
      clear hx
      have cs : (8192 : Int) < (x.n.size : Int) ∨ (¬ (8192 : Int) < (x.n.size : Int) ∧ (8192 : Int) < (x.v.size : Int)) ∨ (¬ (8192 : Int) < (x.n.size : Int) ∧ ¬ (8192 : Int) < (x.v.size : Int)) := by omega
      rcases cs with e1 | ⟨e1, e2⟩ | ⟨e1, e2⟩
      · go_wp2
        go_ret
        exact ⟨rfl, J.bel⟩
      · go_wp2
        go_ret
        exact ⟨rfl, J.bel⟩
      · have S2 := Lib.hid (ST.out.succ HX.out (by omega) (by omega))
        go_wp2
        go_round
        case rel => exact ⟨k + 1, by omega, by go_num, S2⟩
        case measure => simp [intOf]; omega
    · have l1 : ¬ (k : Int) < (n : Int) := by omega
      have SH := Lib.hid (ST.out.all (by have := HN.out; omega))
      have hl : xs.length ≤ 60 := by have := HN.out; omega
      have HL := Lib.hid hl
      clear ST d1 d2 d3 hl
      have g1 : ∀ z, Below w.heap.size w z → Calls Tryd.prog 6 #[.int .i64 st, .slice base n cap] z fun e w' => e = .returned (.tuple #[.string (ansS st xs), .int .i64 (ansE st xs)]) ∧ Below z.heap.size z w' := fun z hb => answer_any st (HV.out.below hb) HL.out HR.out
      have g2 : ∀ z, Below w.heap.size w z → Calls Tryd.prog 7 #[.int .i64 st, .slice base n cap] z fun e w' => e = .returned (.tuple #[.string (ansS st xs), .int .i64 (ansE st xs)]) ∧ Below z.heap.size z w' := fun z hb => ranswer_any st (HV.out.below hb) HL.out SH.out
      have g3 : ∀ z, Below w.heap.size w z → Calls Tryd.prog 8 #[.string m, .string t, .slice base n cap] z fun e w' => e = .returned (.tuple #[.string (askS (ls m) (ls t) xs), .int .i64 (askE (ls m) (ls t) xs)]) ∧ Below z.heap.size z w' := fun z hb => ask_any m t (HV.out.below hb) (by omega) (by omega) HL.out HR.out
      have g4 : ∀ z, Below w.heap.size w z → Calls Tryd.prog 9 #[.string m, .string t, .slice base n cap] z fun e w' => e = .returned (.tuple #[.string (askS (ls m) (ls t) xs), .int .i64 (askE (ls m) (ls t) xs)]) ∧ Below z.heap.size z w' := fun z hb => rask_any m t (HV.out.below hb) hm ht HL.out SH.out
      have g5 := fun w => reason_any st w
      have g6 := fun w => rreason_any st w
      have g7 := fun w => bodyless_any st false w
      have g8 := fun w => bodyless_any st true w
      rw [bo_head] at g8
      generalize ansS st xs = AS at g1 g2
      generalize ansE st xs = AE at g1 g2
      generalize askS (ls m) (ls t) xs = KS at g3 g4
      generalize askE (ls m) (ls t) xs = KE at g3 g4
      generalize reaB st = RB at g5 g6
      have e1 := eq_self AS
      have e2 := int_self AE
      have e3 := eq_self KS
      have e4 := int_self KE
      have e5 := eq_self RB
      clear HR SH HL
      go_wp2_with fail
      refine (g1 _ J.bel).mono ?_
      rintro e w2 ⟨rfl, F2⟩
      replace J := J.below F2
      clear F2 g1
      go_wp2_with fail
      refine (g2 _ J.bel).mono ?_
      rintro e w3 ⟨rfl, F3⟩
      replace J := J.below F3
      clear F3 g2
      have c0 := J.c0
      have c1 := J.c1
      go_wp2_with fail
      refine (g3 _ J.bel).mono ?_
      rintro e w4 ⟨rfl, F4⟩
      replace J := J.below F4
      clear F4 g3 c0 c1
      have c0 := J.c0
      have c1 := J.c1
      go_wp2_with fail
      refine (g4 _ J.bel).mono ?_
      rintro e w5 ⟨rfl, F5⟩
      replace J := J.below F5
      clear F5 g4 c0 c1
      have BE := J.bel
      clear J HV
      go_upto_region 14 with (fail)
      by_cases h4 : st = 204
      · subst h4
        rw [show boF 204 false = true from rfl] at g7
        go_wp2_with fail
        refine (g5 _).mono ?_
        rintro e w6 ⟨rfl, rfl⟩
        go_wp2_with fail
        refine (g6 _).mono ?_
        rintro e w7 ⟨rfl, rfl⟩
        go_wp2_with fail
        refine (g7 _).mono ?_
        rintro e w8 ⟨rfl, rfl⟩
        go_wp2_with fail
        refine (g8 _).mono ?_
        rintro e w9 ⟨rfl, rfl⟩
        clear g5 g6 g7 g8
        go_wp2
        go_ret
        exact ⟨rfl, BE⟩
      by_cases h3 : st = 304
      · subst h3
        rw [show boF 304 false = true from rfl] at g7
        go_wp2_with fail
        refine (g5 _).mono ?_
        rintro e w6 ⟨rfl, rfl⟩
        go_wp2_with fail
        refine (g6 _).mono ?_
        rintro e w7 ⟨rfl, rfl⟩
        go_wp2_with fail
        refine (g7 _).mono ?_
        rintro e w8 ⟨rfl, rfl⟩
        go_wp2_with fail
        refine (g8 _).mono ?_
        rintro e w9 ⟨rfl, rfl⟩
        clear g5 g6 g7 g8
        go_wp2
        go_ret
        exact ⟨rfl, BE⟩
      have i4 := ne_false h4
      have i3 := ne_false h3
      by_cases h1 : 100 ≤ st
      · by_cases h2 : st ≤ 199
        · rw [bo_in h1 h2] at g7
          clear h3 h4
          go_wp2_with fail
          refine (g5 _).mono ?_
          rintro e w6 ⟨rfl, rfl⟩
          go_wp2_with fail
          refine (g6 _).mono ?_
          rintro e w7 ⟨rfl, rfl⟩
          go_wp2_with fail
          refine (g7 _).mono ?_
          rintro e w8 ⟨rfl, rfl⟩
          go_wp2_with fail
          refine (g8 _).mono ?_
          rintro e w9 ⟨rfl, rfl⟩
          clear g5 g6 g7 g8
          go_wp2
          go_ret
          exact ⟨rfl, BE⟩
        · rw [bo_no (fun x => h2 x.2) h4 h3] at g7
          clear h3 h4
          go_wp2_with fail
          refine (g5 _).mono ?_
          rintro e w6 ⟨rfl, rfl⟩
          go_wp2_with fail
          refine (g6 _).mono ?_
          rintro e w7 ⟨rfl, rfl⟩
          go_wp2_with fail
          refine (g7 _).mono ?_
          rintro e w8 ⟨rfl, rfl⟩
          go_wp2_with fail
          refine (g8 _).mono ?_
          rintro e w9 ⟨rfl, rfl⟩
          clear g5 g6 g7 g8
          go_wp2
          go_ret
          exact ⟨rfl, BE⟩
      · rw [bo_no (fun x => h1 x.1) h4 h3] at g7
        clear h3 h4
        go_wp2_with fail
        refine (g5 _).mono ?_
        rintro e w6 ⟨rfl, rfl⟩
        go_wp2_with fail
        refine (g6 _).mono ?_
        rintro e w7 ⟨rfl, rfl⟩
        go_wp2_with fail
        refine (g7 _).mono ?_
        rintro e w8 ⟨rfl, rfl⟩
        go_wp2_with fail
        refine (g8 _).mono ?_
        rintro e w9 ⟨rfl, rfl⟩
        clear g5 g6 g7 g8
        go_wp2
        go_ret
        exact ⟨rfl, BE⟩
theorem walkOutletExact {v : Value} (st : Int) (y : ByteArray × ByteArray) (xs : List Fi.Fd) (w : World) (w0 : (Lit.int .i64 st).wf = true) (hy : y.1.size ≤ 140737488355328 ∧ y.2.size ≤ 140737488355328) (hv : FdsAt w v xs) (hl : xs.length ≤ 9223372036854775807) (ho : ∀ y ∈ xs, y.Ok) (hr : Fi.Reach xs) :
    Calls Tryd.prog 3 #[.int .i64 st, .agg #[.string y.1, .string y.2], v] w fun e w' => e = .returned (.bool true) ∧ Below w.heap.size w w' := by
  by_cases h : 60 < xs.length ∨ 8192 < y.1.size ∨ 8192 < y.2.size
  · exact bigOutletExact w v xs st y.1 y.2 hv hl hy.1 hy.2 h
  · exact mainOutletExact w v xs st y.1 y.2 hv (by omega) (by omega) (by omega) hr
end Go.Proofs.YtdldoklkenhopaaDoor.Ou
