/-
  The walk of InletPipes.
-/
import Derived.Test.YtbngfphiachnoaaGreatDoorInAwake
import Derived.Test.YtbngfphiachnoaaGreatDoorInStrs
import Derived.Test.YtbngfphiachnoaaGreatDoorInAll
import Derived.Test.YtbngfphiachnoaaGreatDoorInSize
import Derived.Test.YtbngfphiachnoaaGreatDoorInLine2B
namespace Go.Proofs.YtbngfphiachnoaaGreatDoor.In
open Go.RowKit Go.PlainAid
open Hx Fi Ch
set_option linter.unusedVariables false
set_option maxRecDepth 20000
set_option linter.unusedSimpArgs false

theorem strs_at {w : World} {base : Option Addr} {n cap : Nat} {ss : List ByteArray} (h : StrsAt w (.slice base n cap) ss) {j : Nat} {s : ByteArray} (hj : ss[j]? = some s) : ∃ a : Addr, base = some a ∧ a.block < w.heap.size ∧ w.cell? (a.add j) = some (.string s) := by
  obtain ⟨base', cap', e, hl, hc⟩ := h.is
  injection e with e1 e2 e3
  subst e1
  exact hc j s hj
theorem str_self2 (s : ByteArray) : (s.toList == s.toList) = true := by simp
theorem zR_one : ∀ v ∈ zR.toList, v.oneCell' = true := by
  intro v hv
  simp [zR] at hv
  rcases hv with rfl | rfl | rfl <;> rfl
theorem add_next4 (a : Addr) (k : Nat) : ({ (a.add (k * 4)) with off := (a.add (k * 4)).off + 1, spot := none } : Addr) = a.add (k * 4 + 1) := by
  simp only [Addr.add]; split <;> simp_all <;> omega
abbrev Pp := ByteArray × ByteArray
def ppL (es : List Pp) : List UInt8 := pipesL (es.map fun x => (ls x.1, ls x.2))
def PpOk (x : Pp) : Prop := (∃ q, lnQ (getL (ls x.1)) = .ok q) ∧ x.1.size ≤ 100 ∧ x.2.size ≤ 100
theorem pp_len : ∀ es : List Pp, (∀ x ∈ es, PpOk x) → (ppL es).length ≤ 250 * es.length
  | [], _ => by simp [ppL, pipesL]
  | x :: l, h => by
    have ih := pp_len l fun y hy => h y (by simp [hy])
    obtain ⟨_, h1, h2⟩ := h x (by simp)
    have hp := pipe_len (t := ls x.1) (body := ls x.2) (by rw [ls_len]; exact h2)
    have e : ppL (x :: l) = pipeL (ls x.1) (ls x.2) ++ ppL l := rfl
    rw [e, List.length_append]
    unfold pipeL
    rw [List.length_append]
    rw [ls_len] at hp ⊢
    rw [List.length_cons]
    rw [ls_len] at hp
    omega
theorem pp_snoc (es : List Pp) (x : Pp) : ppL (es ++ [x]) = ppL es ++ pipeL (ls x.1) (ls x.2) := by
  unfold ppL
  rw [List.map_append]
  exact pipesL_snoc _ _
theorem pp_all {es : List Pp} (h : ∀ x ∈ es, PpOk x) : allF (ppL es) = ⟨es.map fun x => pipeQ (ls x.1) (ls x.2).length, 0, []⟩ := by
  unfold ppL
  rw [all_pipes _ (by
    intro p hp
    obtain ⟨x, hx, rfl⟩ := List.mem_map.1 hp
    obtain ⟨a, b, c⟩ := h x hx
    exact ⟨a, by rw [ls_len]; omega, by rw [ls_len]; exact c⟩), List.map_map]
  rfl
/-- where the walk stands -/
structure PInv (wa wr : World) (p n k : Nat) (sv : Value) (es : List Pp) : Prop where
  hk : k ≤ n
  k40 : k ≤ 40
  len : es.length ≤ k
  ok : ∀ x ∈ es, PpOk x
  own : Owns wa noZ wr [inT p (ppL es) 0, strT sv (es.map Prod.fst), noT, noT]
theorem get_is (TT : ByteArray) : ls (⟨#[71, 69, 84, 32]⟩ ++ TT ++ ⟨#[32, 72, 84, 84, 80, 47, 49, 46, 49]⟩) = getL (ls TT) := by
  simp only [ls_append]
  unfold getL
  have e1 : ls (⟨#[71, 69, 84, 32]⟩ : ByteArray) = [71, 69, 84] ++ [32] := rfl
  have e2 : ls (⟨#[32, 72, 84, 84, 80, 47, 49, 46, 49]⟩ : ByteArray) = 32 :: [72, 84, 84, 80, 47, 49, 46, 49] := rfl
  rw [e1, e2]
  simp
theorem pipe_is (TT BB : ByteArray) (h : BB.size ≤ 100) : ls (⟨#[71, 69, 84, 32]⟩ ++ TT ++ ⟨#[32, 72, 84, 84, 80, 47, 49, 46, 49, 13, 10, 72, 111, 115, 116, 58, 32, 104, 13, 10, 67, 111, 110, 116, 101, 110, 116, 45, 76, 101, 110, 103, 116, 104, 58, 32]⟩ ++ tx (decD BB.size) ++ ⟨#[13, 10, 13, 10]⟩ ++ BB) = pipeL (ls TT) (ls BB) := by
  simp only [ls_append, ls_tx]
  unfold pipeL headF getL
  have e1 : ls (⟨#[71, 69, 84, 32]⟩ : ByteArray) = [71, 69, 84] ++ [32] := rfl
  have e2 : ls (⟨#[32, 72, 84, 84, 80, 47, 49, 46, 49, 13, 10, 72, 111, 115, 116, 58, 32, 104, 13, 10, 67, 111, 110, 116, 101, 110, 116, 45, 76, 101, 110, 103, 116, 104, 58, 32]⟩ : ByteArray) = 32 :: [72, 84, 84, 80, 47, 49, 46, 49] ++ 13 :: 10 :: (printF fHost ++ 13 :: 10 :: (ls nCL ++ [58, 32])) := by decide +kernel
  have e3 : ls (⟨#[13, 10, 13, 10]⟩ : ByteArray) = [13, 10] ++ [13, 10] := rfl
  have e4 : linesF [fHost, fLen (ls BB).length] = printF fHost ++ 13 :: 10 :: (ls nCL ++ [58, 32] ++ decD BB.size ++ 13 :: 10 :: []) := by
    simp only [linesF]
    have : printF (fLen (ls BB).length) = ls nCL ++ [58, 32] ++ decD BB.size := by
      unfold printF fLen
      rw [ls_tx, ls_len, decD_is (by omega)]
    rw [this]
  rw [e1, e2, e3, e4]
  simp
set_option maxRecDepth 200000 in
set_option maxHeartbeats 40000000 in
theorem walkPipes {v u : Value} (ts bs : List ByteArray) (w : World) (hv : StrsAt w v ts) (hl : ts.length ≤ 9223372036854775807) (hr : ∀ s ∈ ts, s.size ≤ 140737488355328) (hv2 : StrsAt w u bs) (hl2 : bs.length ≤ 9223372036854775807) (hr2 : ∀ s ∈ bs, s.size ≤ 140737488355328) :
    Calls Tryz.prog 7 #[v, u] w fun e w' => e = .returned (.bool true) ∧ Below w.heap.size w w' := by
  obtain ⟨base, cap, rfl, _, _⟩ := hv.is
  obtain ⟨base2, cap2, rfl, _, _⟩ := hv2.is
  have HV := Lib.hid hv
  have HV2 := Lib.hid hv2
  have HR := Lib.hid hr
  have HR2 := Lib.hid hr2
  clear hv hv2 hr hr2
  obtain ⟨n, hn⟩ : ∃ n, n = ts.length := ⟨_, rfl⟩
  obtain ⟨m, hm⟩ : ∃ m, m = bs.length := ⟨_, rfl⟩
  rw [← hn] at HV hl ⊢
  rw [← hm] at HV2 hl2 ⊢
  have HN := Lib.hid hn
  have HM := Lib.hid hm
  clear hn hm
  go_enter Tryz.func7, Tryz.ntmps7
  go_wp2_with fail
  refine (awake_any _).mono ?_
  rintro e wa ⟨rfl, ba⟩
  have BA := Lib.hid ba
  clear ba
  go_wp2_with fail
  refine (own_new (Owns.none wa 4) 0 rfl).mono ?_
  rintro e w1 ⟨p, rfl, O1⟩
  have O2 := own_snil O1 1 rfl
  have I0 : Hid (PInv wa (w1.alloc (.cells #[] 9)) p n 0 (.slice (some ⟨w1.heap.size, 0, none⟩) 0 0) []) := Lib.hid ⟨Nat.zero_le _, by omega, Nat.le_refl _, by simp, O2⟩
  clear O1 O2
  go_wp2_with fail
  generalize w1.alloc _ = w2 at I0 ⊢
  go_loopw [6, 7] (fun a i wr => ∃ (o : Option Addr) (cp : Nat) (es : List Pp) (k : Nat), a = .slice o es.length cp ∧ i = .int .i64 k ∧ PInv wa wr p n k (.slice o es.length cp) es) (fun _ i _ => n - (intOf i).toNat)
  case atStart => exact ⟨_, _, [], 0, rfl, rfl, I0.out⟩
  case round =>
    clear I0
    obtain ⟨o, cp, es, k, rfl, rfl, J⟩ := hrel
    by_cases hkn : k < n ∧ k < 40
    · obtain ⟨hkn, hk40⟩ := hkn
      have l1 : (k : Int) < (n : Int) := by omega
      have l2 : (k : Int) < 40 := by omega
      obtain ⟨T0, hT0⟩ : ∃ T0, ts[k]? = some T0 := ⟨ts[k]'(by have := HN.out; omega), List.getElem?_eq_getElem _⟩
      have bw : Below w.heap.size w wr := BA.out.trans (J.own.bel.mono BA.out.size)
      obtain ⟨a, rfl, ha, hcell⟩ := strs_at (HV.out.below bw) hT0
      have tz := HR.out T0 (List.mem_of_getElem? hT0)
      obtain ⟨TT, hTT⟩ : ∃ TT, (⟨#[47]⟩ : ByteArray) ++ T0 = TT := ⟨_, rfl⟩
      have hTz : TT.size ≤ 140737488355329 := by rw [← hTT, ByteArray.size_append]; show 1 + T0.size ≤ _; omega
      obtain ⟨QQ, hQQ⟩ : ∃ QQ, ⟨#[71, 69, 84, 32]⟩ ++ TT ++ ⟨#[32, 72, 84, 84, 80, 47, 49, 46, 49]⟩ = QQ := ⟨_, rfl⟩
      have hQz : QQ.size ≤ 281474976710656 := by
        rw [← hQQ, ByteArray.size_append, ByteArray.size_append]
        show 4 + TT.size + 9 ≤ _
        omega
      have hQl : ls QQ = getL (ls TT) := by rw [← hQQ]; exact get_is TT
      have ln := fun w => InB.line_any QQ w hQz
      rw [hQl] at ln
      have HJ := Lib.hid J
      clear J hT0 hQl
      have skip_ : Hid (PInv wa wr p n k (.slice o es.length cp) es → ∀ wz, Below wr.heap.size wr wz → PInv wa wz p n (k + 1) (.slice o es.length cp) es) := Lib.hid fun J wz hb => ⟨by omega, by omega, by have := J.len; omega, J.ok, J.own.below hb⟩
      cases hq : lnQ (getL (ls TT)) with
      | error st =>
        have hne : st = 400 ∨ st = 505 := lnQ_err hq
        rw [hq] at ln
        simp only [InB.ln_err] at ln
        have g : (st != 200) = true := by rw [bne_iff_ne]; omega
        clear hq hne
        go_wp2_with fail
        refine (ln _).mono ?_
        rintro e w3 ⟨rfl, F3⟩
        clear ln
        have J3 := skip_.out HJ.out w3 F3
        clear skip_ HJ hcell ha
        go_wp2
        go_roundw
        case rel => exact ⟨o, cp, es, k + 1, rfl, by go_num, J3⟩
        case measure => simp [intOf]; omega
      | ok pr =>
        obtain ⟨rfl, _, _⟩ := lnQ_get hq
        have HQ := Lib.hid hq
        rw [hq] at ln
        simp only [InB.ln_ok] at ln
        rw [tx_ls] at ln
        clear hq
        by_cases h100 : 100 < TT.size
        · have g1 : (100 : Int) < (TT.size : Int) := by omega
          go_wp2_with fail
          refine (ln _).mono ?_
          rintro e w3 ⟨rfl, F3⟩
          clear ln
          have J3 := skip_.out HJ.out w3 F3
          clear skip_ HJ hcell ha
          go_wp2
          go_roundw
          case rel => exact ⟨o, cp, es, k + 1, rfl, by go_num, J3⟩
          case measure => simp [intOf]; omega
        · have g1 : ¬ (100 : Int) < (TT.size : Int) := by omega
          go_wp2_with fail
          refine (ln _).mono ?_
          rintro e w3 ⟨rfl, F3⟩
          clear ln hcell ha
          by_cases hkm : k < m
          · have l3 : (k : Int) < (m : Int) := by omega
            obtain ⟨BB, hBB⟩ : ∃ BB, bs[k]? = some BB := ⟨bs[k]'(by have := HM.out; omega), List.getElem?_eq_getElem _⟩
            obtain ⟨a2, rfl, ha2, hcell2⟩ := strs_at (HV2.out.below (bw.trans (F3.mono bw.size))) hBB
            have bz := HR2.out BB (List.mem_of_getElem? hBB)
            clear hBB
            by_cases hb100 : 100 < BB.size
            · have g2 : (100 : Int) < (BB.size : Int) := by omega
              have J3 := HJ.out.own.below F3
              have BE := bw.trans (F3.mono bw.size)
              clear skip_ HJ J3
              go_wp2
              go_ret
              exact ⟨rfl, BE⟩
            · have g2 : ¬ (100 : Int) < (BB.size : Int) := by omega
              have sz := fun w => size_any BB.size (by omega) w
              obtain ⟨DD, hDD⟩ : ∃ DD, tx (decD BB.size) = DD := ⟨_, rfl⟩
              have hDz : DD.size ≤ 3 := by
                rw [← hDD, tx_size]
                unfold decD
                split
                · simp
                · split <;> simp
              have hp := pipe_is TT BB (by omega)
              rw [hDD] at sz hp
              obtain ⟨A1, hA1⟩ : ∃ A1, ⟨#[71, 69, 84, 32]⟩ ++ TT ++ ⟨#[32, 72, 84, 84, 80, 47, 49, 46, 49, 13, 10, 72, 111, 115, 116, 58, 32, 104, 13, 10, 67, 111, 110, 116, 101, 110, 116, 45, 76, 101, 110, 103, 116, 104, 58, 32]⟩ = A1 := ⟨_, rfl⟩
              rw [hA1] at hp
              have hA1z : A1.size ≤ 150 := by
                rw [← hA1, ByteArray.size_append, ByteArray.size_append]
                show 4 + TT.size + 36 ≤ _
                omega
              obtain ⟨A2, hA2⟩ : ∃ A2, A1 ++ DD = A2 := ⟨_, rfl⟩
              rw [hA2] at hp
              have hA2z : A2.size ≤ 153 := by rw [← hA2, ByteArray.size_append]; omega
              obtain ⟨A3, hA3⟩ : ∃ A3, A2 ++ ⟨#[13, 10, 13, 10]⟩ = A3 := ⟨_, rfl⟩
              rw [hA3] at hp
              have hA3z : A3.size ≤ 157 := by
                rw [← hA3, ByteArray.size_append]
                show A2.size + 4 ≤ _
                omega
              obtain ⟨SS, hSS⟩ : ∃ SS, A3 ++ BB = SS := ⟨_, rfl⟩
              rw [hSS] at hp
              have hSz : SS.size ≤ 257 := by rw [← hSS, ByteArray.size_append]; omega
              have O3 := HJ.out.own.below F3
              have hpl := pp_len es HJ.out.ok
              have hes := HJ.out.len
              have CA := own_add O3 0 rfl SS (by omega)
              have NX : Hid (∀ wz v', Owns wa noZ wz [inT p (ppL es ++ ls SS) 0, strT v' (es.map Prod.fst ++ [TT]), noT, noT] → PInv wa wz p n (k + 1) v' (es ++ [(TT, BB)])) := Lib.hid fun wz v' O' => by
                refine ⟨by omega, by omega, by rw [List.length_append]; simp; omega, fun x hx => ?_, ?_⟩
                · rcases List.mem_append.1 hx with hx | hx
                  · exact HJ.out.ok x hx
                  · rw [List.mem_singleton] at hx
                    subst hx
                    exact ⟨⟨_, HQ.out⟩, by show TT.size ≤ 100; omega, by show BB.size ≤ 100; omega⟩
                · rw [pp_snoc, List.map_append]
                  show Owns wa noZ wz [inT p (ppL es ++ pipeL (ls TT) (ls BB)) 0, strT v' (es.map Prod.fst ++ [TT]), noT, noT]
                  rw [← hp]
                  exact O'
              have HES := Lib.hid hes
              have ELEN : Hid ((es ++ [(TT, BB)]).length = es.length + 1) := Lib.hid (by rw [List.length_append]; rfl)
              clear skip_ HJ hp hDD hpl O3 hes
              go_wp2_with fail
              refine (sz _).mono ?_
              rintro e w4 ⟨rfl, rfl⟩
              clear sz
              go_wp2_with fail
              refine CA.mono ?_
              rintro e w5 ⟨rfl, O5⟩
              clear CA hA1 hA2 hA3 hSS
              replace O5 : Owns wa noZ w5 [inT p (ppL es ++ ls SS) 0, strT (.slice o es.length cp) (es.map Prod.fst), noT, noT] := O5
              have AP := fun ty => own_spush O5 1 rfl TT (by have := HES.out; rw [List.length_map]; omega) ty
              clear O5
              go_upto_region 7 with (first | refine wpl_buildS rfl rfl rfl ?_ | (at_builtin; refine wpl_appS AP rfl _ _ rfl rfl rfl ?_; intro v' w6 O6))
              clear AP
              replace O6 : Owns wa noZ w6 [inT p (ppL es ++ ls SS) 0, strT v' (es.map Prod.fst ++ [TT]), noT, noT] := O6
              obtain ⟨o6, cp6, rfl, _⟩ := own_sat O6 1 rfl
              have J6 := NX.out w6 _ O6
              clear O6 NX
              have hl6 : (es.map Prod.fst ++ [TT]).length = (es ++ [(TT, BB)]).length := by simp
              rw [hl6] at J6 ⊢
              clear hl6
              go_wp2
              go_roundw
              case rel => exact ⟨o6, cp6, es ++ [(TT, BB)], k + 1, rfl, by go_num, J6⟩
              case measure => simp [intOf]; omega
          · have l3 : ¬ (k : Int) < (m : Int) := by omega
            go_upto_region 14 with (fail)
            obtain ⟨BB, hBB⟩ : ∃ BB : ByteArray, (⟨#[]⟩ : ByteArray) = BB := ⟨_, rfl⟩
            have bz : BB.size ≤ 140737488355328 := by rw [← hBB]; decide
            rw [hBB]
            clear hBB
            by_cases hb100 : 100 < BB.size
            · have g2 : (100 : Int) < (BB.size : Int) := by omega
              have J3 := HJ.out.own.below F3
              have BE := bw.trans (F3.mono bw.size)
              clear skip_ HJ J3
              go_wp2
              go_ret
              exact ⟨rfl, BE⟩
            · have g2 : ¬ (100 : Int) < (BB.size : Int) := by omega
              have sz := fun w => size_any BB.size (by omega) w
              obtain ⟨DD, hDD⟩ : ∃ DD, tx (decD BB.size) = DD := ⟨_, rfl⟩
              have hDz : DD.size ≤ 3 := by
                rw [← hDD, tx_size]
                unfold decD
                split
                · simp
                · split <;> simp
              have hp := pipe_is TT BB (by omega)
              rw [hDD] at sz hp
              obtain ⟨A1, hA1⟩ : ∃ A1, ⟨#[71, 69, 84, 32]⟩ ++ TT ++ ⟨#[32, 72, 84, 84, 80, 47, 49, 46, 49, 13, 10, 72, 111, 115, 116, 58, 32, 104, 13, 10, 67, 111, 110, 116, 101, 110, 116, 45, 76, 101, 110, 103, 116, 104, 58, 32]⟩ = A1 := ⟨_, rfl⟩
              rw [hA1] at hp
              have hA1z : A1.size ≤ 150 := by
                rw [← hA1, ByteArray.size_append, ByteArray.size_append]
                show 4 + TT.size + 36 ≤ _
                omega
              obtain ⟨A2, hA2⟩ : ∃ A2, A1 ++ DD = A2 := ⟨_, rfl⟩
              rw [hA2] at hp
              have hA2z : A2.size ≤ 153 := by rw [← hA2, ByteArray.size_append]; omega
              obtain ⟨A3, hA3⟩ : ∃ A3, A2 ++ ⟨#[13, 10, 13, 10]⟩ = A3 := ⟨_, rfl⟩
              rw [hA3] at hp
              have hA3z : A3.size ≤ 157 := by
                rw [← hA3, ByteArray.size_append]
                show A2.size + 4 ≤ _
                omega
              obtain ⟨SS, hSS⟩ : ∃ SS, A3 ++ BB = SS := ⟨_, rfl⟩
              rw [hSS] at hp
              have hSz : SS.size ≤ 257 := by rw [← hSS, ByteArray.size_append]; omega
              have O3 := HJ.out.own.below F3
              have hpl := pp_len es HJ.out.ok
              have hes := HJ.out.len
              have CA := own_add O3 0 rfl SS (by omega)
              have NX : Hid (∀ wz v', Owns wa noZ wz [inT p (ppL es ++ ls SS) 0, strT v' (es.map Prod.fst ++ [TT]), noT, noT] → PInv wa wz p n (k + 1) v' (es ++ [(TT, BB)])) := Lib.hid fun wz v' O' => by
                refine ⟨by omega, by omega, by rw [List.length_append]; simp; omega, fun x hx => ?_, ?_⟩
                · rcases List.mem_append.1 hx with hx | hx
                  · exact HJ.out.ok x hx
                  · rw [List.mem_singleton] at hx
                    subst hx
                    exact ⟨⟨_, HQ.out⟩, by show TT.size ≤ 100; omega, by show BB.size ≤ 100; omega⟩
                · rw [pp_snoc, List.map_append]
                  show Owns wa noZ wz [inT p (ppL es ++ pipeL (ls TT) (ls BB)) 0, strT v' (es.map Prod.fst ++ [TT]), noT, noT]
                  rw [← hp]
                  exact O'
              have HES := Lib.hid hes
              have ELEN : Hid ((es ++ [(TT, BB)]).length = es.length + 1) := Lib.hid (by rw [List.length_append]; rfl)
              clear skip_ HJ hp hDD hpl O3 hes
              go_wp2_with fail
              refine (sz _).mono ?_
              rintro e w4 ⟨rfl, rfl⟩
              clear sz
              go_wp2_with fail
              refine CA.mono ?_
              rintro e w5 ⟨rfl, O5⟩
              clear CA hA1 hA2 hA3 hSS
              replace O5 : Owns wa noZ w5 [inT p (ppL es ++ ls SS) 0, strT (.slice o es.length cp) (es.map Prod.fst), noT, noT] := O5
              have AP := fun ty => own_spush O5 1 rfl TT (by have := HES.out; rw [List.length_map]; omega) ty
              clear O5
              go_upto_region 7 with (first | refine wpl_buildS rfl rfl rfl ?_ | (at_builtin; refine wpl_appS AP rfl _ _ rfl rfl rfl ?_; intro v' w6 O6))
              clear AP
              replace O6 : Owns wa noZ w6 [inT p (ppL es ++ ls SS) 0, strT v' (es.map Prod.fst ++ [TT]), noT, noT] := O6
              obtain ⟨o6, cp6, rfl, _⟩ := own_sat O6 1 rfl
              have J6 := NX.out w6 _ O6
              clear O6 NX
              have hl6 : (es.map Prod.fst ++ [TT]).length = (es ++ [(TT, BB)]).length := by simp
              rw [hl6] at J6 ⊢
              clear hl6
              go_wp2
              go_roundw
              case rel => exact ⟨o6, cp6, es ++ [(TT, BB)], k + 1, rfl, by go_num, J6⟩
              case measure => simp [intOf]; omega
    · by_cases hkn1 : k < n
      · have l1 : (k : Int) < (n : Int) := by omega
        have l2 : ¬ (k : Int) < 40 := by omega
        clear hkn
        have hall := pp_all J.ok
        have hlen := pp_len es J.ok
        have hes : es.length ≤ 40 := by have := J.len; have := J.k40; omega
        have CA := own_all J.own 0 2 (by decide) rfl rfl (by rw [hall]; simp; omega) (by omega)
        rw [hall] at CA
        have hok := Lib.hid J.ok
        clear hall hlen J
        go_wp2_with fail
        refine CA.mono ?_
        rintro e w3 ⟨o3, cp3, rs, rfl, hrs, O3⟩
        clear CA
        replace O3 : Owns wa noZ w3 [inT p [] 0, strT (.slice o es.length cp) (es.map Prod.fst), lsT (.slice o3 rs.length cp3) rs, noT] := O3
        have hrl : rs.length = es.length := by
          have := congrArg List.length hrs
          simpa using this
        obtain ⟨N, hN⟩ : ∃ N, es.length = N := ⟨_, rfl⟩
        rw [hN] at hrl O3 hes ⊢
        rw [hrl] at O3 ⊢
        have HRS := Lib.hid hrs
        have HRL := Lib.hid (And.intro hrl hN)
        clear hrs hrl hN
        have CL := own_left O3 0 rfl (by simp)
        go_wp2_with fail
        refine CL.mono ?_
        rintro e w4 ⟨rfl, O4⟩
        clear CL O3
        have n0 : ((N : Int) != (N : Int)) = false := by simp
        go_wp2_with fail
        go_loopw [17] (fun i wr => ∃ j : Nat, j ≤ N ∧ i = .int .i64 j ∧ Owns wa noZ wr [inT p [] 0, strT (.slice o N cp) (es.map Prod.fst), lsT (.slice o3 N cp3) rs, noT]) (fun i _ => N - (intOf i).toNat)
        case atStart => exact ⟨0, Nat.zero_le _, rfl, O4⟩
        case round =>
          clear O4 n0
          obtain ⟨j, hj, rfl, O⟩ := hrel
          by_cases hjN : j < N
          · have l3 : (j : Int) < (N : Int) := by omega
            obtain ⟨x, hx⟩ : ∃ x, es[j]? = some x := ⟨es[j]'(by have := HRL.out.2; omega), List.getElem?_eq_getElem _⟩
            obtain ⟨r, hr⟩ : ∃ r, rs[j]? = some r := ⟨rs[j]'(by have := HRL.out.1; omega), List.getElem?_eq_getElem _⟩
            have hrq : r.1 = pipeQ (ls x.1) (ls x.2).length := by
              have e1 : (rs.map Prod.fst)[j]? = some r.1 := by rw [List.getElem?_map, hr]; rfl
              rw [HRS.out, List.getElem?_map, hx] at e1
              exact (Option.some.inj e1).symm
            have OO := O
            obtain ⟨o5, cp5, e5, A5⟩ := own_at O 2 rfl
            obtain ⟨a5, ea5, _, _, hb5, cm, ct⟩ := A5 j r hr
            obtain ⟨o6, cp6, e6, A6⟩ := own_sat O 1 rfl
            obtain ⟨a6, ea6, hb6, cs⟩ := A6 j x.1 (by rw [List.getElem?_map, hx]; rfl)
            injection e5 with e51 e52 e53
            injection e6 with e61 e62 e63
            subst e51 e61 ea5 ea6
            rw [hrq] at cm ct
            replace cm : wr.cell? (a5.add (j * 4)) = some (.string ⟨#[71, 69, 84]⟩) := cm
            replace ct : wr.cell? { (a5.add (j * 4)) with off := (a5.add (j * 4)).off + 1, spot := none } = some (.string x.1) := by
              rw [add_next4, ct]
              show some (Value.string (tx (ls x.1))) = _
              rw [tx_ls]
            have gs : (x.1.toList != x.1.toList) = false := by simp
            have gs2 := str_self2 x.1
            have OH := Lib.hid OO
            clear A5 A6 hx hr hrq e52 e53 e62 e63 O OO
            generalize x.1 = X at *
            go_upto_region 26 with (fail)
            go_quiet (fail)
            have OJ := OH.out.below (w' := wr.drewN nq) ⟨rfl, rfl, rfl, Nat.le_refl _, fun _ _ => rfl⟩
            generalize wr.drewN nq = wq at *
            go_wp2
            go_roundw
            case rel => exact ⟨j + 1, by omega, by go_num, OJ⟩
            case measure => simp [intOf]; omega
          · have l3 : ¬ (j : Int) < (N : Int) := by omega
            have bw := BA.out.trans (O.bel.mono BA.out.size)
            clear O
            go_wp2_with fail
            refine (next_nil _).mono ?_
            rintro e w5 ⟨rfl, F5⟩
            replace bw := bw.trans (F5.mono bw.size)
            clear F5
            obtain ⟨w6, S6, A6, F6, _⟩ := keep (P := Tryz.prog) (ty := 30) w5 zR zR 30 (by kernel_rfl) rfl zR_one
            replace bw := bw.trans (F6.mono bw.size)
            clear F6 A6
            unfold zR at S6
            go_upto_region 30 with (refine wpl_store S6 rfl rfl rfl rfl rfl ?_)
            clear S6
            go_wp2_with fail
            refine (add_nil _ _).mono ?_
            rintro e w7 ⟨rfl, rfl⟩
            go_wp2_with fail
            refine (left_nil _).mono ?_
            rintro e w8 ⟨rfl, rfl⟩
            go_wp2
            go_ret
            exact ⟨rfl, bw⟩
      · have l1 : ¬ (k : Int) < (n : Int) := by omega
        clear hkn
        have hall := pp_all J.ok
        have hlen := pp_len es J.ok
        have hes : es.length ≤ 40 := by have := J.len; have := J.k40; omega
        have CA := own_all J.own 0 2 (by decide) rfl rfl (by rw [hall]; simp; omega) (by omega)
        rw [hall] at CA
        have hok := Lib.hid J.ok
        clear hall hlen J
        go_wp2_with fail
        refine CA.mono ?_
        rintro e w3 ⟨o3, cp3, rs, rfl, hrs, O3⟩
        clear CA
        replace O3 : Owns wa noZ w3 [inT p [] 0, strT (.slice o es.length cp) (es.map Prod.fst), lsT (.slice o3 rs.length cp3) rs, noT] := O3
        have hrl : rs.length = es.length := by
          have := congrArg List.length hrs
          simpa using this
        obtain ⟨N, hN⟩ : ∃ N, es.length = N := ⟨_, rfl⟩
        rw [hN] at hrl O3 hes ⊢
        rw [hrl] at O3 ⊢
        have HRS := Lib.hid hrs
        have HRL := Lib.hid (And.intro hrl hN)
        clear hrs hrl hN
        have CL := own_left O3 0 rfl (by simp)
        go_wp2_with fail
        refine CL.mono ?_
        rintro e w4 ⟨rfl, O4⟩
        clear CL O3
        have n0 : ((N : Int) != (N : Int)) = false := by simp
        go_wp2_with fail
        go_loopw [17] (fun i wr => ∃ j : Nat, j ≤ N ∧ i = .int .i64 j ∧ Owns wa noZ wr [inT p [] 0, strT (.slice o N cp) (es.map Prod.fst), lsT (.slice o3 N cp3) rs, noT]) (fun i _ => N - (intOf i).toNat)
        case atStart => exact ⟨0, Nat.zero_le _, rfl, O4⟩
        case round =>
          clear O4 n0
          obtain ⟨j, hj, rfl, O⟩ := hrel
          by_cases hjN : j < N
          · have l3 : (j : Int) < (N : Int) := by omega
            obtain ⟨x, hx⟩ : ∃ x, es[j]? = some x := ⟨es[j]'(by have := HRL.out.2; omega), List.getElem?_eq_getElem _⟩
            obtain ⟨r, hr⟩ : ∃ r, rs[j]? = some r := ⟨rs[j]'(by have := HRL.out.1; omega), List.getElem?_eq_getElem _⟩
            have hrq : r.1 = pipeQ (ls x.1) (ls x.2).length := by
              have e1 : (rs.map Prod.fst)[j]? = some r.1 := by rw [List.getElem?_map, hr]; rfl
              rw [HRS.out, List.getElem?_map, hx] at e1
              exact (Option.some.inj e1).symm
            have OO := O
            obtain ⟨o5, cp5, e5, A5⟩ := own_at O 2 rfl
            obtain ⟨a5, ea5, _, _, hb5, cm, ct⟩ := A5 j r hr
            obtain ⟨o6, cp6, e6, A6⟩ := own_sat O 1 rfl
            obtain ⟨a6, ea6, hb6, cs⟩ := A6 j x.1 (by rw [List.getElem?_map, hx]; rfl)
            injection e5 with e51 e52 e53
            injection e6 with e61 e62 e63
            subst e51 e61 ea5 ea6
            rw [hrq] at cm ct
            replace cm : wr.cell? (a5.add (j * 4)) = some (.string ⟨#[71, 69, 84]⟩) := cm
            replace ct : wr.cell? { (a5.add (j * 4)) with off := (a5.add (j * 4)).off + 1, spot := none } = some (.string x.1) := by
              rw [add_next4, ct]
              show some (Value.string (tx (ls x.1))) = _
              rw [tx_ls]
            have gs : (x.1.toList != x.1.toList) = false := by simp
            have gs2 := str_self2 x.1
            have OH := Lib.hid OO
            clear A5 A6 hx hr hrq e52 e53 e62 e63 O OO
            generalize x.1 = X at *
            go_upto_region 26 with (fail)
            go_quiet (fail)
            have OJ := OH.out.below (w' := wr.drewN nq) ⟨rfl, rfl, rfl, Nat.le_refl _, fun _ _ => rfl⟩
            generalize wr.drewN nq = wq at *
            go_wp2
            go_roundw
            case rel => exact ⟨j + 1, by omega, by go_num, OJ⟩
            case measure => simp [intOf]; omega
          · have l3 : ¬ (j : Int) < (N : Int) := by omega
            have bw := BA.out.trans (O.bel.mono BA.out.size)
            clear O
            go_wp2_with fail
            refine (next_nil _).mono ?_
            rintro e w5 ⟨rfl, F5⟩
            replace bw := bw.trans (F5.mono bw.size)
            clear F5
            obtain ⟨w6, S6, A6, F6, _⟩ := keep (P := Tryz.prog) (ty := 30) w5 zR zR 30 (by kernel_rfl) rfl zR_one
            replace bw := bw.trans (F6.mono bw.size)
            clear F6 A6
            unfold zR at S6
            go_upto_region 30 with (refine wpl_store S6 rfl rfl rfl rfl rfl ?_)
            clear S6
            go_wp2_with fail
            refine (add_nil _ _).mono ?_
            rintro e w7 ⟨rfl, rfl⟩
            go_wp2_with fail
            refine (left_nil _).mono ?_
            rintro e w8 ⟨rfl, rfl⟩
            go_wp2
            go_ret
            exact ⟨rfl, bw⟩
end Go.Proofs.YtbngfphiachnoaaGreatDoor.In
