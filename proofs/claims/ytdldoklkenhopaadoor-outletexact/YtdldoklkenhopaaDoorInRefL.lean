/-
  Contract of Line of the document's answers.
-/
import Derived.Test.YtdldoklkenhopaaDoorInLine2
import Derived.Test.YtdldoklkenhopaaDoorFiRefT
import Derived.Test.YtdldoklkenhopaaDoorFiRef
import Derived.Test.YtdldoklkenhopaaDoorFiRefP
namespace Go.Proofs.YtdldoklkenhopaaDoor.In
open Go.RowKit Go.PlainAid
open Hx Fi Ch
set_option linter.unusedVariables false
set_option maxRecDepth 20000
set_option linter.unusedSimpArgs false

theorem lnQ_1 {l : List UInt8} (h : cutB 32 l = none) : lnQ l = .error 400 := by unfold lnQ; rw [h]
theorem lnQ_2 {l m r : List UInt8} (h : cutB 32 l = some (m, r)) (ht : isTok m = false) : lnQ l = .error 400 := by unfold lnQ; rw [h]; simp only; rw [if_neg (by rw [ht]; simp)]
theorem lnQ_3 {l m r : List UInt8} (h : cutB 32 l = some (m, r)) (ht : isTok m = true) (h2 : cutB 32 r = none) : lnQ l = .error 400 := by unfold lnQ; rw [h]; simp only; rw [if_pos ht, h2]
theorem lnQ_4 {l m r t v : List UInt8} (h : cutB 32 l = some (m, r)) (ht : isTok m = true) (h2 : cutB 32 r = some (t, v)) : lnQ l = (if t ≠ [] ∧ t.all visB = true then match verF v with | none => .error 400 | some (a, b) => if a = 49 ∧ b ≤ 49 then .ok (m, t, b.toNat - 48) else .error 505 else .error 400) := by unfold lnQ; rw [h]; simp only; rw [if_pos ht, h2]; rfl
theorem ln_bad {t v : List UInt8} {m : List UInt8} (h : ¬ (t ≠ [] ∧ t.all visB = true) ∨ verF v = none) : (if t ≠ [] ∧ t.all visB = true then match verF v with | none => .error 400 | some (a, b) => if a = 49 ∧ b ≤ 49 then .ok (m, t, b.toNat - 48) else .error 505 else .error 400 : Except Int (List UInt8 × List UInt8 × Nat)) = .error 400 := by
  by_cases c : t ≠ [] ∧ t.all visB = true
  · rw [if_pos c]
    rcases h with h | h
    · exact absurd c h
    · rw [h]
  · rw [if_neg c]
/-- the version's conditions -/
theorem verF_no {v : List UInt8} (h : ¬ (v.length = 8 ∧ v.take 5 = [72, 84, 84, 80, 47] ∧ v.getD 6 0 = 46 ∧ (48 ≤ v.getD 5 0 ∧ v.getD 5 0 ≤ 57) ∧ 48 ≤ v.getD 7 0 ∧ v.getD 7 0 ≤ 57)) : verF v = none := by unfold verF; rw [if_neg h]
theorem verF_yes {v : List UInt8} (h : v.length = 8 ∧ v.take 5 = [72, 84, 84, 80, 47] ∧ v.getD 6 0 = 46 ∧ (48 ≤ v.getD 5 0 ∧ v.getD 5 0 ≤ 57) ∧ 48 ≤ v.getD 7 0 ∧ v.getD 7 0 ≤ 57) : verF v = some (v.getD 5 0, v.getD 7 0) := by unfold verF; rw [if_pos h]
theorem getD_at {T : ByteArray} {t v : List UInt8} (h : ls T = t ++ 32 :: v) {n j : Nat} (hn : t.length = n) (hj : j < v.length) : ((v.getD j 0).toNat : Int) = bt T (n + 1 + j) := by
  have hz : T.size = t.length + (v.length + 1) := by rw [← ls_len, h, List.length_append, List.length_cons]
  obtain ⟨c, gc, ec, _⟩ := get_ls (s := T) (k := n + 1 + j) (by omega)
  rw [h, List.getElem?_append_right (by omega), show n + 1 + j - t.length = j + 1 by omega, List.getElem?_cons_succ] at gc
  rw [List.getD_eq_getElem?_getD, gc, ec]; rfl
theorem cut_at {s : ByteArray} {b : UInt8} {x y : List UInt8} (h : cutB b (ls s) = some (x, y)) : s.extract 0 x.length = tx x ∧ s.extract (x.length + 1) s.size = tx y ∧ x.length < s.size ∧ s.size = x.length + 1 + y.length := by
  have e := (cutB_some h).1
  have l := congrArg List.length e
  rw [ls_len, List.length_append, List.length_cons] at l
  refine ⟨ls_inj ?_, ls_inj ?_, by omega, by omega⟩
  · rw [ls_extract, ls_tx, List.drop_zero, Nat.sub_zero, e, List.take_left]
  · rw [ls_extract, ls_tx, e, show x ++ b :: y = (x ++ [b]) ++ y by simp, List.drop_left' (by simp)]
    exact List.take_of_length_le (by omega)
theorem all_part {p : Int → Bool} {T : ByteArray} {k n : Nat} (hk : k < n) (hn : n ≤ T.size) (hp : p (bt T k) = false) : allN p ((ls T).take n) = false := by
  obtain ⟨c, gc, ec, _⟩ := get_ls (s := T) (k := k) (by omega)
  rw [ec] at hp
  unfold allN
  rw [List.all_eq_false]
  refine ⟨c, List.mem_of_getElem? (i := k) ?_, by rw [hp]; simp⟩
  rw [List.getElem?_take, if_pos hk]; exact gc
set_option maxHeartbeats 4000000 in
theorem rline_any (s : ByteArray) (w : World) (hs : s.size ≤ 1048576) :
    Calls Tryd.prog 20 #[.string s] w (LnPost (lnQ (ls s)) w) := by
  have f1 := fun w => refFind_any s 32 w (by omega)
  rw [show (((32 : UInt8).toNat : Nat) : Int) = 32 from rfl] at f1
  cases hc : cutB 32 (ls s) with
  | none =>
    rw [find_no hc] at f1
    rw [lnQ_1 hc, ln_err]
    clear hc
    go_enter Tryd.func20, Tryd.ntmps20
    go_wp2_with fail
    refine (f1 _).mono ?_
    rintro e w1 ⟨rfl, rfl⟩
    clear f1
    go_wp2
    refine bodyPost_ret (results_tmp4 Tryd.results20 _ _ _) rfl ?_
    exact ⟨rfl, Below.refl _ _⟩
  | some p =>
    obtain ⟨m, r⟩ := p
    rw [find_yes hc] at f1
    obtain ⟨eM, eT, hlt, hsz⟩ := cut_at hc
    have tk := fun w => refIsToken_any (tx m) w (by rw [tx_size]; omega)
    rw [ls_tx] at tk
    have HQ := Lib.hid hc
    obtain ⟨K, hK⟩ : ∃ K, m.length = K := ⟨_, rfl⟩
    rw [hK] at f1 eM eT hlt hsz
    have hK0 : ¬ ((K : Int) < 0) := by omega
    have eMl := Lib.hid (show ls (tx m) = m from ls_tx m)
    have eTl := Lib.hid (show ls (tx r) = r from ls_tx r)
    have hTz : (tx r).size + K + 1 = s.size := by rw [tx_size]; omega
    generalize tx m = M at *
    generalize tx r = T at *
    clear hc hsz hK
    cases hk : isTok m with
    | false =>
      rw [hk] at tk
      rw [lnQ_2 HQ.out hk, ln_err]
      clear hk eT hTz HQ
      go_enter Tryd.func20, Tryd.ntmps20
      go_wp2_with fail
      refine (f1 _).mono ?_
      rintro e w1 ⟨rfl, rfl⟩
      clear f1
      go_wp2_with fail
      refine (tk _).mono ?_
      rintro e w1 ⟨rfl, rfl⟩
      clear tk
      go_wp2
      refine bodyPost_ret (results_tmp4 Tryd.results20 _ _ _) rfl ?_
      exact ⟨rfl, Below.refl _ _⟩
    | true =>
      rw [hk] at tk
      have f2 := fun w => refFind_any T 32 w (by omega)
      rw [show (((32 : UInt8).toNat : Nat) : Int) = 32 from rfl] at f2
      rw [eTl.out] at f2
      cases hc2 : cutB 32 r with
      | none =>
        rw [find_no hc2] at f2
        rw [lnQ_3 HQ.out hk hc2, ln_err]
        clear hk hc2 HQ
        go_enter Tryd.func20, Tryd.ntmps20
        go_wp2_with fail
        refine (f1 _).mono ?_
        rintro e w1 ⟨rfl, rfl⟩
        clear f1
        go_wp2_with fail
        refine (tk _).mono ?_
        rintro e w1 ⟨rfl, rfl⟩
        clear tk
        go_wp2_with fail
        refine (f2 _).mono ?_
        rintro e w1 ⟨rfl, rfl⟩
        clear f2
        go_wp2
        refine bodyPost_ret (results_tmp4 Tryd.results20 _ _ _) rfl ?_
        exact ⟨rfl, Below.refl _ _⟩
      | some p2 =>
        obtain ⟨t, v⟩ := p2
        rw [find_yes hc2] at f2
        rw [lnQ_4 HQ.out hk hc2]
        have hT := (cutB_some hc2).1
        rw [← eTl.out] at hT
        have hTs := congrArg List.length hT
        rw [ls_len, List.length_append, List.length_cons] at hTs
        obtain ⟨n, hn⟩ : ∃ n, t.length = n := ⟨_, rfl⟩
        rw [hn] at f2 hTs
        have HT := Lib.hid hT
        have HN := Lib.hid hn
        have HK := Lib.hid hk
        clear hk hc2 HQ hT hn
        have hTb : T.size ≤ 1048576 := by omega
        by_cases n0 : n = 0
        · subst n0
          rw [ln_bad (.inl fun x => x.1 (List.eq_nil_of_length_eq_zero HN.out)), ln_err]
          clear hTs
          go_enter Tryd.func20, Tryd.ntmps20
          go_wp2_with fail
          refine (f1 _).mono ?_
          rintro e w1 ⟨rfl, rfl⟩
          clear f1
          go_wp2_with fail
          refine (tk _).mono ?_
          rintro e w1 ⟨rfl, rfl⟩
          clear tk
          go_wp2_with fail
          refine (f2 _).mono ?_
          rintro e w1 ⟨rfl, rfl⟩
          clear f2
          go_wp2
          refine bodyPost_ret (results_tmp4 Tryd.results20 _ _ _) rfl ?_
          exact ⟨rfl, Below.refl _ _⟩
        · have n1 : ¬ ((n : Int) < 1) := by omega
          by_cases h8 : v.length = 8
          · rw [h8] at hTs
            have hT9 : T.size = n + 9 := by omega
            clear hTs
            have x5 := getD_at HT.out HN.out (show 5 < v.length by omega)
            have x6 := getD_at HT.out HN.out (show 6 < v.length by omega)
            have x7 := getD_at HT.out HN.out (show 7 < v.length by omega)
            rw [show n + 1 + 5 = n + 6 by omega] at x5
            rw [show n + 1 + 6 = n + 7 by omega] at x6
            rw [show n + 1 + 7 = n + 8 by omega] at x7
            have hL : ls (T.extract (n + 1) (n + 6)) = v.take 5 := by
              rw [ls_extract, HT.out, show t ++ 32 :: v = (t ++ [32]) ++ v by simp, List.drop_left' (by simp [HN.out]), show n + 6 - (n + 1) = 5 by omega]
            have hLt : (T.extract (n + 1) (n + 6)).toList = v.take 5 := by rw [ls_toList, hL]
            have hE : ((T.extract (n + 1) (n + 6)).toList == [72, 84, 84, 80, 47]) = decide (v.take 5 = [72, 84, 84, 80, 47]) := by
              rw [hLt]
              by_cases c : v.take 5 = [72, 84, 84, 80, 47]
              · rw [c]; rfl
              · rw [decide_eq_false c]; exact beq_eq_false_iff_ne.2 c
            have sl : ∀ w, (Instr.slice 9 (.string T) (some (.int .i64 ((n : Int) + 1))) (some (.int .i64 ((n : Int) + 6))) none).run Tryd.prog w = .ok (.string (T.extract (n + 1) (n + 6))) w := fun w => by
              have h := run_slice_string (P := Tryd.prog) (w := w) 9 T .i64 .i64 ((n : Int) + 1) ((n : Int) + 6) Tryd.underlying9 (by omega) (by omega) (by omega)
              rw [show ((n : Int) + 1).toNat = n + 1 by omega, show ((n : Int) + 6).toNat = n + 6 by omega] at h
              exact h
            generalize T.extract (n + 1) (n + 6) = HV at *
            have hg := get_bt T
            have hp7 : (n : Int) + 7 < (T.size : Int) := by omega
            clear hL hLt
            by_cases c5 : v.take 5 = [72, 84, 84, 80, 47]
            · rw [decide_eq_true c5] at hE
              by_cases c6 : v.getD 6 0 = 46
              · have b6 : bt T (n + 7) = 46 := by rw [← x6, c6]; rfl
                have hv := vis_is t
                have HTK : Hid ((ls T).take n = t) := Lib.hid (by rw [HT.out]; exact List.take_left' HN.out)
                obtain ⟨RES, hRES⟩ : ∃ RES : Except Int (List UInt8 × List UInt8 × Nat), (if t ≠ [] ∧ t.all visB = true then match verF v with | none => .error 400 | some (a, b) => if a = 49 ∧ b ≤ 49 then .ok (m, t, b.toNat - 48) else .error 505 else .error 400) = RES := ⟨_, rfl⟩
                rw [hRES]
                have HRES := Lib.hid hRES
                have HX := Lib.hid (And.intro x5 x7)
                have HC := Lib.hid (And.intro h8 (And.intro c5 c6))
                have HV := Lib.hid hv
                clear hRES x5 x6 x7 c5 c6 h8 hv
                go_enter Tryd.func20, Tryd.ntmps20
                go_wp2_with fail
                refine (f1 _).mono ?_
                rintro e w1 ⟨rfl, rfl⟩
                clear f1
                go_wp2_with fail
                refine (tk _).mono ?_
                rintro e w1 ⟨rfl, rfl⟩
                clear tk
                go_wp2_with fail
                refine (f2 _).mono ?_
                rintro e w1 ⟨rfl, rfl⟩
                clear f2
                go_wp2
                clear sl hE b6 hp7
                go_loop [9] (fun i => ∃ k : Nat, k ≤ n ∧ i = .int .i64 k ∧ AllTo visN T k) (fun i => n - (intOf i).toNat)
                case atStart => exact ⟨0, Nat.zero_le _, rfl, AllTo.zero visN T⟩
                case round =>
                  obtain ⟨k, hk, rfl, hd⟩ := hrel
                  by_cases hkn : k < n
                  · have l1 : (k : Int) < (n : Int) := by omega
                    have l2 : (k : Int) < (T.size : Int) := by omega
                    cases hv : visN (bt T k) with
                    | true =>
                      have HD := Lib.hid (hd.succ (by omega) hv)
                      clear hd
                      unfold visN at hv
                      have hv := of_decide_eq_true hv
                      have v1 : ¬ bt T k < 33 := by omega
                      have v2 : ¬ 126 < bt T k := by omega
                      clear hv
                      go_wp2
                      go_round
                      case rel => exact ⟨k + 1, by omega, by go_num, HD.out⟩
                      case measure => simp [intOf]; omega
                    | false =>
                      have E : RES = .error 400 := by
                        rw [← HRES.out, ln_bad (.inl fun x => ?_)]
                        have := all_part (n := n) hkn (by omega) hv
                        rw [HTK.out, ← HV.out, x.2] at this
                        cases this
                      clear hd HRES
                      subst E
                      rw [ln_err] at *
                      unfold visN at hv
                      have hv := of_decide_eq_false hv
                      by_cases v1 : bt T k < 33
                      · clear hv
                        go_wp2
                        refine bodyPost_ret (results_tmp4 Tryd.results20 _ _ _) rfl ?_
                        exact ⟨rfl, Below.refl _ _⟩
                      · have v2 : 126 < bt T k := by omega
                        clear hv
                        go_wp2
                        refine bodyPost_ret (results_tmp4 Tryd.results20 _ _ _) rfl ?_
                        exact ⟨rfl, Below.refl _ _⟩
                  · have l1 : ¬ (k : Int) < (n : Int) := by omega
                    obtain rfl : k = n := by omega
                    have hall : t.all visB = true := by rw [HV.out, ← HTK.out]; exact hd
                    have hne : t ≠ [] := fun e => by rw [e] at HN; exact n0 HN.out.symm
                    have R2 := HRES.out
                    rw [if_pos ⟨hne, hall⟩] at R2
                    have i6 : (k : Int) + 6 < (T.size : Int) := by omega
                    have i8 : (k : Int) + 8 < (T.size : Int) := by omega
                    obtain ⟨x5, x7⟩ := HX.out
                    obtain ⟨h8, c5, c6⟩ := HC.out
                    clear hd HRES hall hne HX HC l1
                    by_cases d5 : 48 ≤ bt T (k + 6) ∧ bt T (k + 6) ≤ 57
                    · by_cases d7 : 48 ≤ bt T (k + 8) ∧ bt T (k + 8) ≤ 57
                      · have hvv : verF v = some (v.getD 5 0, v.getD 7 0) := verF_yes ⟨h8, c5, c6, ⟨(u8_le _ _).2 (by rw [x5]; exact d5.1), (u8_le _ _).2 (by rw [x5]; exact d5.2)⟩, (u8_le _ _).2 (by rw [x7]; exact d7.1), (u8_le _ _).2 (by rw [x7]; exact d7.2)⟩
                        rw [hvv] at R2
                        simp only at R2
                        by_cases e5 : bt T (k + 6) = 49
                        · by_cases e7 : bt T (k + 8) ≤ 49
                          · rw [if_pos ⟨(u8_eq _ _).2 (by rw [x5, e5]; rfl), (u8_le _ _).2 (by rw [x7]; exact e7)⟩] at R2
                            subst R2
                            have eM2 : tx m = M := by rw [← eMl.out, tx_ls]
                            have eT2 : T.extract 0 k = tx t := ls_inj (by rw [ls_extract, ls_tx, List.drop_zero, Nat.sub_zero, HTK.out])
                            have eB : (((v.getD 7 0).toNat - 48 : Nat) : Int) = bt T (k + 8) - 48 := by omega
                            have EM2 := Lib.hid eM2
                            have EB := Lib.hid eB
                            have w7 : IntKind.u8.wrap (bt T (k + 8) - 48) = bt T (k + 8) - 48 := IntWalk.u8_in _ (by omega)
                            have w8 : IntKind.i64.wrap (bt T (k + 8) - 48) = bt T (k + 8) - 48 := IntWalk.i64_in _ (by omega)
                            have g1 : ¬ bt T (k + 6) < 48 := by omega
                            have g2 : ¬ 57 < bt T (k + 6) := by omega
                            have g3 : ¬ bt T (k + 8) < 48 := by omega
                            have g4 : ¬ 57 < bt T (k + 8) := by omega
                            have g5 : (bt T (k + 6) != 49) = false := by rw [e5]; rfl
                            have g6 : ¬ 49 < bt T (k + 8) := by omega
                            clear x5 x7 h8 c5 c6 hvv eB e5 d5 d7 eM2 e7
                            obtain ⟨TT, hTT⟩ : ∃ TT, TT = tx t := ⟨_, rfl⟩
                            have ETT := Lib.hid hTT
                            rw [← hTT] at eT2
                            clear hTT
                            go_upto_region 19 with (fail)
                            go_quiet (fail)
                            have BQ : Below w.heap.size w (w.drewN nq) := ⟨rfl, rfl, rfl, Nat.le_refl _, fun _ _ => rfl⟩
                            generalize w.drewN nq = wq at *
                            go_wp2
                            refine bodyPost_ret (results_tmp4 Tryd.results20 _ _ _) rfl ?_
                            refine ⟨?_, BQ⟩
                            show Ending.returned (.tuple #[.string M, .string TT, .int .i64 (bt T (k + 8) - 48), .int .i64 200]) = Ending.returned (.tuple #[.string (tx m), .string (tx t), .int .i64 (((v.getD 7 0).toNat - 48 : Nat) : Int), .int .i64 200])
                            rw [EM2.out, ← ETT.out, EB.out]
                          · rw [if_neg fun x => e7 (by have := (u8_le _ _).1 x.2; rw [x7] at this; exact this)] at R2
                            subst R2
                            rw [ln_err]
                            have g1 : ¬ bt T (k + 6) < 48 := by omega
                            have g2 : ¬ 57 < bt T (k + 6) := by omega
                            have g3 : ¬ bt T (k + 8) < 48 := by omega
                            have g4 : ¬ 57 < bt T (k + 8) := by omega
                            have g5 : (bt T (k + 6) != 49) = false := by rw [e5]; rfl
                            have g6 : 49 < bt T (k + 8) := by omega
                            clear x5 x7 h8 c5 c6 hvv e5 d5 d7 e7
                            go_wp2
                            refine bodyPost_ret (results_tmp4 Tryd.results20 _ _ _) rfl ?_
                            exact ⟨rfl, Below.refl _ _⟩
                        · rw [if_neg fun x => e5 (by rw [← x5, x.1]; rfl)] at R2
                          subst R2
                          rw [ln_err]
                          have g1 : ¬ bt T (k + 6) < 48 := by omega
                          have g2 : ¬ 57 < bt T (k + 6) := by omega
                          have g3 : ¬ bt T (k + 8) < 48 := by omega
                          have g4 : ¬ 57 < bt T (k + 8) := by omega
                          have g5 : (bt T (k + 6) != 49) = true := by rw [bne_iff_ne]; exact e5
                          clear x5 x7 h8 c5 c6 hvv e5 d5 d7
                          go_wp2
                          refine bodyPost_ret (results_tmp4 Tryd.results20 _ _ _) rfl ?_
                          exact ⟨rfl, Below.refl _ _⟩
                      · rw [verF_no (fun x => d7 ⟨by rw [← x7]; exact (u8_le _ _).1 x.2.2.2.2.1, by rw [← x7]; exact (u8_le _ _).1 x.2.2.2.2.2⟩)] at R2
                        subst R2
                        rw [ln_err]
                        have g1 : ¬ bt T (k + 6) < 48 := by omega
                        have g2 : ¬ 57 < bt T (k + 6) := by omega
                        by_cases g3 : bt T (k + 8) < 48
                        · clear x5 x7 h8 c5 c6 d5 d7
                          go_wp2
                          refine bodyPost_ret (results_tmp4 Tryd.results20 _ _ _) rfl ?_
                          exact ⟨rfl, Below.refl _ _⟩
                        · have g4 : 57 < bt T (k + 8) := by omega
                          clear x5 x7 h8 c5 c6 d5 d7
                          go_wp2
                          refine bodyPost_ret (results_tmp4 Tryd.results20 _ _ _) rfl ?_
                          exact ⟨rfl, Below.refl _ _⟩
                    · rw [verF_no (fun x => d5 ⟨by rw [← x5]; exact (u8_le _ _).1 x.2.2.2.1.1, by rw [← x5]; exact (u8_le _ _).1 x.2.2.2.1.2⟩)] at R2
                      subst R2
                      rw [ln_err]
                      by_cases g1 : bt T (k + 6) < 48
                      · clear x5 x7 h8 c5 c6 d5
                        go_wp2
                        refine bodyPost_ret (results_tmp4 Tryd.results20 _ _ _) rfl ?_
                        exact ⟨rfl, Below.refl _ _⟩
                      · have g2 : 57 < bt T (k + 6) := by omega
                        clear x5 x7 h8 c5 c6 d5
                        go_wp2
                        refine bodyPost_ret (results_tmp4 Tryd.results20 _ _ _) rfl ?_
                        exact ⟨rfl, Below.refl _ _⟩
              · rw [ln_bad (.inr (verF_no fun x => c6 x.2.2.1)), ln_err]
                have b6 : (bt T (n + 7) != 46) = true := by
                  rw [bne_iff_ne, ← x6]
                  intro e
                  exact c6 ((u8_eq _ _).2 e)
                clear x5 x6 x7 c5 c6 h8
                go_enter Tryd.func20, Tryd.ntmps20
                go_wp2_with fail
                refine (f1 _).mono ?_
                rintro e w1 ⟨rfl, rfl⟩
                clear f1
                go_wp2_with fail
                refine (tk _).mono ?_
                rintro e w1 ⟨rfl, rfl⟩
                clear tk
                go_wp2_with fail
                refine (f2 _).mono ?_
                rintro e w1 ⟨rfl, rfl⟩
                clear f2
                go_wp2
                refine bodyPost_ret (results_tmp4 Tryd.results20 _ _ _) rfl ?_
                exact ⟨rfl, Below.refl _ _⟩
            · rw [decide_eq_false c5] at hE
              rw [ln_bad (.inr (verF_no fun x => c5 x.2.1)), ln_err]
              clear x5 x6 x7 c5 h8
              go_enter Tryd.func20, Tryd.ntmps20
              go_wp2_with fail
              refine (f1 _).mono ?_
              rintro e w1 ⟨rfl, rfl⟩
              clear f1
              go_wp2_with fail
              refine (tk _).mono ?_
              rintro e w1 ⟨rfl, rfl⟩
              clear tk
              go_wp2_with fail
              refine (f2 _).mono ?_
              rintro e w1 ⟨rfl, rfl⟩
              clear f2
              go_wp2
              refine bodyPost_ret (results_tmp4 Tryd.results20 _ _ _) rfl ?_
              exact ⟨rfl, Below.refl _ _⟩
          · rw [ln_bad (.inr (verF_no fun x => h8 x.1)), ln_err]
            have h9 : ((T.size : Int) - (n : Int) != 9) = true := by rw [bne_iff_ne]; omega
            have hnT : n ≤ 1048576 := by omega
            clear hTs
            go_enter Tryd.func20, Tryd.ntmps20
            go_wp2_with fail
            refine (f1 _).mono ?_
            rintro e w1 ⟨rfl, rfl⟩
            clear f1
            go_wp2_with fail
            refine (tk _).mono ?_
            rintro e w1 ⟨rfl, rfl⟩
            clear tk
            go_wp2_with fail
            refine (f2 _).mono ?_
            rintro e w1 ⟨rfl, rfl⟩
            clear f2
            go_wp2
            refine bodyPost_ret (results_tmp4 Tryd.results20 _ _ _) rfl ?_
            exact ⟨rfl, Below.refl _ _⟩
end Go.Proofs.YtdldoklkenhopaaDoor.In
