/-
  FieldBack, walked: a head is read as it was written; cut off anywhere it is not whole yet: the law.
-/
import Derived.Test.YtdimjeajgmlfkaaDoorFiBack
namespace Go.Proofs.YtdimjeajgmlfkaaDoor.Fi
open Go.RowKit Go.PlainAid
open Hx
set_option linter.unusedVariables false
set_option maxRecDepth 20000
set_option linter.unusedSimpArgs false

theorem cut_at (x : Int) (n : Nat) (hn : 0 < n) (h60 : n ≤ 4096) : ∃ k : Nat, k < n ∧ wrap64 ((IntKind.u64.wrap x).tmod (n : Int)) = (k : Int) := by
  have h0 : 0 ≤ IntKind.u64.wrap x := by rw [IntKind.wrap_u64]; omega
  rw [Int.tmod_eq_emod_of_nonneg h0]
  have h1 := Int.emod_nonneg (IntKind.u64.wrap x) (show (n : Int) ≠ 0 by omega)
  have h2 := Int.emod_lt_of_pos (IntKind.u64.wrap x) (show 0 < (n : Int) by omega)
  generalize IntKind.u64.wrap x % (n : Int) = y at h1 h2
  refine ⟨y.toNat, by omega, ?_⟩
  unfold wrap64; omega
theorem headF_pos (a : List UInt8) (l : List Fd) : 0 < (headF a l).length := by
  simp [headF]; omega
theorem back_many {w : World} {v : Value} {xs : List Fd} (more : ByteArray) (cut : Int) (hv : FdsAt w v xs) (hl : xs.length ≤ 9223372036854775807) (hm : more.size ≤ maxLen) (h : 4096 < more.size ∨ 60 < xs.length) :
    Calls Tryd.prog 6 #[v, .string more, .int .i64 cut] w fun e w' => e = .returned (.bool true) ∧ Below w.heap.size w w' := by
  unfold maxLen at hm
  obtain ⟨base, cap, rfl, _, _⟩ := hv.is
  clear hv
  by_cases h1 : 4096 < more.size
  · have d1 : (4096 : Int) < (more.size : Int) := by omega
    go_enter Tryd.func6, Tryd.ntmps6
    go_wp2_with fail
    refine (awake_any _).mono ?_
    rintro e w1 ⟨rfl, F1⟩
    go_wp2
    go_ret
    exact ⟨rfl, F1⟩
  · have d1 : ¬ (4096 : Int) < (more.size : Int) := by omega
    have d2 : (60 : Int) < (xs.length : Int) := by omega
    go_enter Tryd.func6, Tryd.ntmps6
    go_wp2_with fail
    refine (awake_any _).mono ?_
    rintro e w1 ⟨rfl, F1⟩
    go_wp2
    go_ret
    exact ⟨rfl, F1⟩
set_option maxRecDepth 100000 in
set_option maxHeartbeats 4000000 in
theorem back_few {w : World} {v : Value} {xs : List Fd} (more : ByteArray) (cut : Int) (hv : FdsAt w v xs) (hl : xs.length ≤ 60) (hm : more.size ≤ 4096) (ho : ∀ y ∈ xs, y.Ok) :
    Calls Tryd.prog 6 #[v, .string more, .int .i64 cut] w fun e w' => e = .returned (.bool true) ∧ Below w.heap.size w w' := by
  obtain ⟨base, cap, rfl, _, _⟩ := hv.is
  have HV := Lib.hid hv
  have HO := Lib.hid ho
  clear hv ho
  obtain ⟨n, hn⟩ : ∃ n, n = xs.length := ⟨_, rfl⟩
  rw [← hn] at HV hl ⊢
  have HN := Lib.hid hn
  clear hn
  have d1 : ¬ (4096 : Int) < (more.size : Int) := by omega
  have d2 : ¬ (60 : Int) < (n : Int) := by omega
  go_enter Tryd.func6, Tryd.ntmps6
  go_wp2_with fail
  refine (awake_any _).mono ?_
  rintro e w1 ⟨rfl, F1⟩
  go_wp2
  go_loopw [7] (fun i wr => ∃ k : Nat, k ≤ n ∧ i = .int .i64 k ∧ wr = w1 ∧ Hid (∀ j x, j < k → xs[j]? = some x → x.n.size ≤ 200 ∧ x.v.size ≤ 200)) (fun i _ => n - (intOf i).toNat)
  case atStart => exact ⟨0, Nat.zero_le _, rfl, rfl, Lib.hid fun j x h => absurd h (Nat.not_lt_zero _)⟩
  case round =>
    obtain ⟨k, hk, rfl, rfl, SM⟩ := hrel
    by_cases hlt : k < n
    · have l1 : (k : Int) < (n : Int) := by omega
      obtain ⟨x, hx⟩ : ∃ x, xs[k]? = some x := ⟨xs[k]'(by have := HN.out; omega), List.getElem?_eq_getElem _⟩
      obtain ⟨a, rfl, ha, _, c0, c1⟩ := (HV.out.below F1).loads hx
      have ok := HO.out x (List.mem_of_getElem? hx)
      have c2 : wr.cell? { (a.add (k * 2)) with off := (a.add (k * 2)).off + 1, spot := none } = some (.string x.v) := by
        rw [← c1]; congr 1; simp only [Addr.add]; split <;> simp_all <;> omega
      have o1 := ok.n
      have o2 := ok.v
      by_cases g1 : 200 < x.n.size
      · have g1' : (200 : Int) < (x.n.size : Int) := by omega
        go_wp2
        go_ret
        exact ⟨rfl, F1⟩
      · have g1' : ¬ (200 : Int) < (x.n.size : Int) := by omega
        by_cases g2 : 200 < x.v.size
        · have g2' : (200 : Int) < (x.v.size : Int) := by omega
          go_wp2
          go_ret
          exact ⟨rfl, F1⟩
        · have g2' : ¬ (200 : Int) < (x.v.size : Int) := by omega
          have SM2 := Lib.hid (show ∀ j y, j < k + 1 → xs[j]? = some y → y.n.size ≤ 200 ∧ y.v.size ≤ 200 from fun j y hj hy => by
            by_cases e : j = k
            · subst e
              rw [hx] at hy
              obtain rfl : x = y := Option.some.inj hy
              exact ⟨by omega, by omega⟩
            · exact SM.out j y (by omega) hy)
          clear hx ok SM
          go_wp2
          go_roundw
          case rel => exact ⟨k + 1, by omega, by go_num, by first | rfl | trivial, SM2⟩
          case measure => simp [intOf]; omega
    · have l1 : ¬ (k : Int) < (n : Int) := by omega
      have all200 : ∀ x ∈ xs, x.n.size ≤ 200 ∧ x.v.size ≤ 200 := fun x hx => by
        obtain ⟨j, hj, e⟩ := List.getElem_of_mem hx
        exact SM.out j x (by have := HN.out; omega) (by rw [← e]; exact List.getElem?_eq_getElem hj)
      have la := laid_any (HV.out.below F1) (by have := HN.out; omega) all200
      have LAH := Lib.hid la
      clear la all200
      go_wp2_with fail
      refine LAH.out.mono ?_
      rintro e w2 ⟨acc, va, rfl, VA, GA, LA, G2⟩
      replace F1 := F1.trans (G2.mono F1.size)
      clear LAH G2
      obtain ⟨T, hT⟩ : ∃ T, T = tx (headF (ls sLine) acc) := ⟨_, rfl⟩
      rw [← hT]
      by_cases c : 4096 < T.size
      · have c' : (4096 : Int) < (T.size : Int) := by omega
        clear hT VA GA LA
        go_wp2
        go_ret
        exact ⟨rfl, F1⟩
      · have c' : ¬ (4096 : Int) < (T.size : Int) := by omega
        have lsT : ls T = headF (ls sLine) acc := by rw [hT, ls_tx]
        have szT : (headF (ls sLine) acc).length = T.size := by rw [← lsT, ls_len]
        have T0 : 0 < T.size := by rw [← szT]; exact headF_pos _ _
        have HD := spl_head (ls sLine) acc (by decide +kernel) (by decide +kernel) (by decide +kernel) (by decide +kernel) GA LA (by omega)
        obtain ⟨q, hq, hqe⟩ := cut_at cut T.size T0 (by omega)
        have ct := spl_cut (ls sLine) acc HD q (by omega)
        have m1 := spl_more (headF (ls sLine) acc) (ls more) (by rw [HD]; show (0 : Int) ≠ 17; decide)
        rw [HD, ← lsT, ← ls_append] at m1
        have r1 := fun w => split_any (T ++ more) w (by rw [ByteArray.size_append]; omega)
        have r2 := fun w => split_any (T.extract 0 q) w (by rw [ByteArray.size_extract]; omega)
        rw [m1, ls_len] at r1
        have bt : ((tx (ls sLine)).toList == [115, 116, 97, 114, 116, 32, 108, 105, 110, 101]) = true := by decide +kernel
        rw [ls_extract, List.drop_zero, Nat.sub_zero, lsT] at r2
        have hL : acc.length ≤ 1099511627776 := by omega
        have HL := Lib.hid hL
        have CT := Lib.hid ct
        have tq : (q : Int) ≤ (T.size : Int) := by omega
        have q0 : (0 : Int) ≤ (q : Int) := by omega
        have nz : (T.size : Int) ≠ 0 := by omega
        clear hT lsT szT HD ct m1 GA LA hL
        generalize spl (List.take q (headF (ls sLine) acc)) = H2 at r2 CT
        go_wp2_with fail
        refine (r1 _).mono ?_
        rintro e w3 ⟨v3, rfl, V3, G3⟩
        replace F1 := F1.trans (G3.mono F1.size)
        have VA3 := VA.below G3
        clear r1 G3 VA
        go_wp2_with fail
        refine (r2 _).mono ?_
        rintro e w4 ⟨v4, rfl, V4, G4⟩
        rw [CT.out]
        replace F1 := F1.trans (G4.mono F1.size)
        have sm := sameR_any (V3.below G4) (VA3.below G4) HL.out HL.out
        rw [sameB_yes rfl] at sm
        clear r2 G4 V4 V3 VA3
        go_wp2_with fail
        refine sm.mono ?_
        rintro e w5 ⟨rfl, G5⟩
        replace F1 := F1.trans (G5.mono F1.size)
        clear sm G5
        go_wp2
        go_ret
        exact ⟨rfl, F1⟩
theorem walkBack {v : Value} (xs : List Fd) (more : ByteArray) (cut : Int) (w : World) (hv : FdsAt w v xs) (hl : xs.length ≤ 9223372036854775807) (ho : ∀ y ∈ xs, y.Ok) (hr : Reach xs) (w1 : more.size ≤ maxLen) (w2 : (Lit.int .i64 cut).wf = true) :
    Calls Tryd.prog 6 #[v, .string more, .int .i64 cut] w fun e w' => e = .returned (.bool true) ∧ Below w.heap.size w w' := by
  by_cases h : 4096 < more.size ∨ 60 < xs.length
  · exact back_many more cut hv hl w1 h
  · exact back_few more cut hv (by omega) (by omega) ho
end Go.Proofs.YtdimjeajgmlfkaaDoor.Fi
