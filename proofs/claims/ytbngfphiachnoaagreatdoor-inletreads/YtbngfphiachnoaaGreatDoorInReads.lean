/-
  The walk of InletReads.
-/
import Derived.Test.YtbngfphiachnoaaGreatDoorInApi
import Derived.Test.YtbngfphiachnoaaGreatDoorInAwake
import Derived.Test.YtbngfphiachnoaaGreatDoorInSame
import Derived.Test.YtbngfphiachnoaaGreatDoorInRd
import Derived.Test.YtbngfphiachnoaaGreatDoorInRefR
import Derived.Test.YtbngfphiachnoaaGreatDoorInStrs
namespace Go.Proofs.YtbngfphiachnoaaGreatDoor.In
open Go.RowKit Go.PlainAid
open Hx Fi Ch
set_option linter.unusedVariables false
set_option maxRecDepth 20000
set_option linter.unusedSimpArgs false

theorem strs_in {w : World} {base : Option Addr} {n cap : Nat} {ss : List ByteArray} (h : StrsAt w (.slice base n cap) ss) {j : Nat} {s : ByteArray} (hj : ss[j]? = some s) : ∃ a : Addr, base = some a ∧ a.block < w.heap.size ∧ w.cell? (a.add j) = some (.string s) := by
  obtain ⟨base', cap', e, hl, hc⟩ := h.is
  injection e with e1 e2 e3
  subst e1
  exact hc j s hj
/-- a request in a box that nobody else holds -/
theorem box_new (w : World) {q : Rq} {fv : Value} (h : FdsAt w fv q.fs) (hf : ∃ o m k, fv = .slice o m k) :
    ∃ w', Stores Tryz.prog (w.alloc (.cells zR 30)) 30 w.heap.size 0 (rqV q fv) w' ∧ At w' w.heap.size 30 (rqV q fv) ∧ FdsAt w' fv q.fs ∧ Below w.heap.size w w' := by
  obtain ⟨w', S, A, B, _⟩ := keep (P := Tryz.prog) (ty := 30) w zR (rqV q fv) 30 (by rw [rqV_size]; kernel_rfl) rfl (rq_one hf)
  exact ⟨w', S, A, h.below B, B⟩
theorem at_loads {w : World} {B : Nat} {q : Rq} {fv : Value} (a : At w B 30 (rqV q fv)) : Loads Tryz.prog w 30 ⟨B, 0, none⟩ (rqV q fv) := a.loads (by kernel_rfl) (by rw [rqV_size]; kernel_rfl)
theorem cut_zero (s : ByteArray) : s.extract 0 s.size = s := by
  have h := ls_extract s 0 s.size
  rw [List.drop_zero, List.take_of_length_le (by rw [ls_len]; exact Nat.le_refl _)] at h
  rw [← tx_ls (s.extract 0 s.size), h, tx_ls]
/-- where the walk stands -/
structure RInv (wa wr : World) (p n k : Nat) (IN : ByteArray) (S : Int) : Prop where
  hk : k ≤ n
  sz : IN.size ≤ 16384
  s200 : S ≠ 200
  own : Owns wa noZ wr [inT p (ls IN) S, noT]
set_option maxRecDepth 200000 in
set_option maxHeartbeats 40000000 in
theorem walkReads (v : Value) (ps : List ByteArray) (w : World) (hv : StrsAt w v ps) (hl : ps.length ≤ 9223372036854775807) (hz : ∀ s ∈ ps, s.size ≤ 9223372036854775807) :
    Calls Tryz.prog 3 #[v] w fun e w' => e = .returned (.bool true) ∧ Below w.heap.size w w' := by
  obtain ⟨base, cap, rfl, _, _⟩ := hv.is
  have HV := Lib.hid hv
  clear hv hz
  obtain ⟨n, hn⟩ : ∃ n, n = ps.length := ⟨_, rfl⟩
  rw [← hn] at HV hl ⊢
  have HN := Lib.hid hn
  clear hn
  go_enter Tryz.func3, Tryz.ntmps3
  go_wp2_with fail
  refine (awake_any _).mono ?_
  rintro e wa ⟨rfl, ba⟩
  have BA := Lib.hid ba
  clear ba
  go_wp2_with fail
  refine (own_new (Owns.none wa 2) 0 rfl).mono ?_
  rintro e w1 ⟨p, rfl, O1⟩
  have I0 : Hid (RInv wa w1 p n 0 ⟨#[]⟩ 0) := Lib.hid ⟨Nat.zero_le _, by decide, by decide, O1⟩
  clear O1
  go_wp2_with fail
  go_loopw [4, 5, 6] (fun a s i wr => ∃ (IN : ByteArray) (S : Int) (k : Nat), a = .string IN ∧ s = .int .i64 S ∧ i = .int .i64 k ∧ RInv wa wr p n k IN S) (fun _ _ i _ => n - (intOf i).toNat)
  case atStart => exact ⟨⟨#[]⟩, 0, 0, rfl, rfl, rfl, I0.out⟩
  case round =>
    clear I0
    obtain ⟨IN, S, k, rfl, rfl, rfl, J⟩ := hrel
    by_cases hkn : k < n ∧ k < 30
    · obtain ⟨hkn, hk30⟩ := hkn
      have l1 : (k : Int) < (n : Int) := by omega
      have l2 : (k : Int) < 30 := by omega
      obtain ⟨q, hq⟩ : ∃ q, ps[k]? = some q := ⟨ps[k]'(by have := HN.out; omega), List.getElem?_eq_getElem _⟩
      have bw : Below w.heap.size w wr := BA.out.trans (J.own.bel.mono BA.out.size)
      obtain ⟨a, rfl, ha, hcell⟩ := strs_in (HV.out.below bw) hq
      have HQ := Lib.hid hq
      clear hq
      by_cases hp : 8192 < q.size
      · have g1 : (8192 : Int) < (q.size : Int) := by omega
        clear J
        go_wp2
        go_ret
        exact ⟨rfl, bw⟩
      · have g1 : ¬ (8192 : Int) < (q.size : Int) := by omega
        by_cases hi : 8192 < IN.size
        · have g2 : (8192 : Int) < (IN.size : Int) := by omega
          clear J
          go_wp2
          go_ret
          exact ⟨rfl, bw⟩
        · have g2 : ¬ (8192 : Int) < (IN.size : Int) := by omega
          clear bw
          by_cases hS : S = 0
          · subst hS
            have CA := own_add J.own 0 rfl q (by rw [ls_len]; omega)
            obtain ⟨JN, hJN⟩ : ∃ JN, IN ++ q = JN := ⟨_, rfl⟩
            have hJz : JN.size ≤ 16384 := by rw [← hJN, ByteArray.size_append]; omega
            have hJl : ls IN ++ ls q = ls JN := by rw [← hJN, ls_append]
            have hfit : IN.size + q.size ≤ 9223372036854775807 := by omega
            rw [hJl] at CA
            clear J hJl
            go_wp2_with fail
            refine CA.mono ?_
            rintro e w3 ⟨rfl, O3⟩
            clear CA hcell ha
            obtain ⟨a3, ea, ha3, hcell3⟩ := strs_in (HV.out.below (BA.out.trans (O3.bel.mono BA.out.size))) HQ.out
            obtain rfl := Option.some.inj ea
            clear ea
            have H3 : Hid (Owns wa noZ w3 [inT p (ls JN) 0, noT]) := Lib.hid O3
            clear O3
            go_wp2_with fail
            try rw [hJN]
            clear hJN hcell3 ha3
            go_loopw [4, 5, 8] (fun a s i wr => ∃ (IN : ByteArray) (m : Nat), a = .string IN ∧ s = .int .i64 0 ∧ i = .int .i64 m ∧ IN.size ≤ 16384 ∧ Owns wa noZ wr [inT p (ls IN) 0, noT]) (fun _ _ i _ => 40 - (intOf i).toNat)
            case atStart => exact ⟨JN, 0, rfl, rfl, rfl, hJz, H3.out⟩
            case round =>
              clear H3
              obtain ⟨X, m, rfl, rfl, rfl, hXz, O⟩ := hrel
              by_cases h40 : m < 40
              · have l3 : (m : Int) < 40 := by omega
                have rr := fun w => rread12_any X w (by omega)
                cases hr : rdF (ls X) with
                | more =>
                  have NX := own_none O 0 rfl (by rw [ls_len]; omega) hr
                  have HR := Lib.hid hr
                  clear hr O
                  go_wp2_with fail
                  refine NX.mono ?_
                  rintro e w4 ⟨rfl, O4⟩
                  clear NX
                  replace O4 : Owns wa noZ w4 [inT p (ls X) 0, noT] := O4
                  obtain ⟨w5, S5, O5⟩ := own_zero O4 1 rfl
                  replace O5 : Owns wa noZ w5 [inT p (ls X) 0, xT w4.heap.size q0 (.slice none 0 0)] := O5
                  unfold zR at S5
                  go_upto_region 22 with (refine wpl_store S5 rfl rfl rfl rfl rfl ?_)
                  clear S5 O4
                  generalize w4.heap.size = B1 at *
                  go_wp2_with fail
                  refine (rr _).mono ?_
                  rintro e w6 HP
                  clear rr
                  obtain ⟨st, hst, rfl, F6⟩ | ⟨q', nn, fv, hq', _⟩ := HP
                  rotate_left
                  · rw [HR.out] at hq'; cases hq'
                  obtain rfl : st = 0 := by
                    rcases hst with ⟨h, _⟩ | h
                    · exact h
                    · rw [HR.out] at h; cases h
                  have O6 := O5.below F6
                  clear hst F6 O5
                  obtain ⟨w7, S7, A7, V7, B7⟩ := box_new (q := q0) (fv := .slice none 0 0) w6 (none_fds _) ⟨_, _, _, rfl⟩
                  have O7 := O6.below B7
                  have S7' := S7
                  rw [rqV_zero] at S7
                  unfold zR at S7
                  go_upto_region 23 with (refine wpl_store S7 rfl rfl rfl rfl rfl ?_)
                  clear S7 S7' O6 B7
                  generalize w6.heap.size = B2 at *
                  obtain ⟨AX, VX⟩ := own_x O7 1 rfl
                  have L9 := at_loads AX
                  have L11 := at_loads A7
                  have SM := same_any q0 VX V7 (by decide)
                  clear AX VX A7 V7
                  go_wp2_with (first | refine wpl_load_in L9 rfl rfl rfl ?_ | refine wpl_load_in L11 rfl rfl rfl ?_)
                  refine SM.mono ?_
                  rintro e w8 ⟨rfl, F8⟩
                  have O8 := O7.below F8
                  clear SM L9 L11 O7 F8
                  go_upto_region 29 with (fail)
                  go_wp2_with fail
                  try rw [cut_zero]
                  have CL := own_left O8 0 rfl (by rw [ls_len]; omega)
                  go_wp2_with fail
                  refine CL.mono ?_
                  rintro e w9 ⟨rfl, O9⟩
                  clear CL O8
                  rw [ls_len]
                  go_wp2
                  go_roundw
                  case rel => exact ⟨X, 0, k + 1, rfl, rfl, by go_num, ⟨by omega, hXz, by decide, own_drop O9 1 rfl⟩⟩
                  case measure => simp [intOf]; omega
                | bad T =>
                  have NX := own_bad O 0 rfl (by rw [ls_len]; omega) hr
                  have HR := Lib.hid hr
                  obtain ⟨n0, n200⟩ := rd_bad_ne hr
                  have gb0 : (T == 0) = false := by rw [beq_eq_false_iff_ne]; exact n0
                  have gb2 : (T != 200) = true := by rw [bne_iff_ne]; exact n200
                  clear hr O
                  go_wp2_with fail
                  refine NX.mono ?_
                  rintro e w4 ⟨rfl, O4⟩
                  clear NX
                  replace O4 : Owns wa noZ w4 [inT p (ls X) T, noT] := O4
                  obtain ⟨w5, S5, O5⟩ := own_zero O4 1 rfl
                  replace O5 : Owns wa noZ w5 [inT p (ls X) T, xT w4.heap.size q0 (.slice none 0 0)] := O5
                  unfold zR at S5
                  go_upto_region 22 with (refine wpl_store S5 rfl rfl rfl rfl rfl ?_)
                  clear S5 O4
                  generalize w4.heap.size = B1 at *
                  go_wp2_with fail
                  refine (rr _).mono ?_
                  rintro e w6 HP
                  clear rr
                  obtain ⟨st, hst, rfl, F6⟩ | ⟨q', nn, fv, hq', _⟩ := HP
                  rotate_left
                  · rw [HR.out] at hq'; cases hq'
                  obtain rfl : st = T := by
                    rcases hst with ⟨_, h⟩ | h
                    · rw [HR.out] at h; cases h
                    · rw [HR.out] at h; injection h with h; exact h.symm
                  have O6 := O5.below F6
                  clear hst F6 O5
                  obtain ⟨w7, S7, A7, V7, B7⟩ := box_new (q := q0) (fv := .slice none 0 0) w6 (none_fds _) ⟨_, _, _, rfl⟩
                  have O7 := O6.below B7
                  have S7' := S7
                  rw [rqV_zero] at S7
                  unfold zR at S7
                  go_upto_region 23 with (refine wpl_store S7 rfl rfl rfl rfl rfl ?_)
                  clear S7 S7' O6 B7
                  generalize w6.heap.size = B2 at *
                  obtain ⟨AX, VX⟩ := own_x O7 1 rfl
                  have L9 := at_loads AX
                  have L11 := at_loads A7
                  have SM := same_any q0 VX V7 (by decide)
                  clear AX VX A7 V7
                  go_wp2_with (first | refine wpl_load_in L9 rfl rfl rfl ?_ | refine wpl_load_in L11 rfl rfl rfl ?_)
                  refine SM.mono ?_
                  rintro e w8 ⟨rfl, F8⟩
                  have O8 := O7.below F8
                  clear SM L9 L11 O7 F8
                  go_wp2_with fail
                  try rw [cut_zero]
                  have CL := own_left O8 0 rfl (by rw [ls_len]; omega)
                  go_wp2_with fail
                  refine CL.mono ?_
                  rintro e w9 ⟨rfl, O9⟩
                  clear CL O8
                  rw [ls_len]
                  go_wp2
                  go_roundw
                  case rel => exact ⟨X, st, k + 1, rfl, rfl, by go_num, ⟨by omega, hXz, n200, own_drop O9 1 rfl⟩⟩
                  case measure => simp [intOf]; omega
                | ok Q N =>
                  have SH := Lib.hid (rd_short2 hr)
                  have hN := (rd_pos hr).2
                  rw [ls_len] at hN
                  have NX := own_ok O 0 1 (by decide) rfl rfl (by rw [ls_len]; omega) hr
                  have HR := Lib.hid hr
                  clear hr O
                  go_wp2_with fail
                  refine NX.mono ?_
                  rintro e w4 ⟨fx, rfl, hfx, O4⟩
                  clear NX
                  replace O4 : Owns wa noZ w4 [inT p ((ls X).drop N) 0, rqT Q fx] := O4
                  obtain ⟨w5, S5, O5⟩ := own_box O4 1 rfl hfx
                  replace O5 : Owns wa noZ w5 [inT p ((ls X).drop N) 0, xT w4.heap.size Q fx] := O5
                  obtain ⟨o1, m1, k1, rfl⟩ := hfx
                  unfold zR at S5
                  go_upto_region 22 with (refine wpl_store S5 rfl rfl rfl rfl rfl ?_)
                  clear S5 O4
                  generalize w4.heap.size = B1 at *
                  go_wp2_with fail
                  refine (rr _).mono ?_
                  rintro e w6 HP
                  clear rr
                  obtain ⟨st, hst, rfl, F6⟩ | ⟨q', nn, fv, hq', rfl, V6, hfv, F6⟩ := HP
                  · rcases hst with ⟨_, h⟩ | h <;> (rw [HR.out] at h; cases h)
                  obtain ⟨rfl, rfl⟩ : q' = Q ∧ nn = N := by
                    rw [HR.out] at hq'; injection hq' with a b; exact ⟨a.symm, b.symm⟩
                  have O6 := O5.below F6
                  obtain ⟨w7, S7, A7, V7, B7⟩ := box_new w6 V6 hfv
                  have O7 := O6.below B7
                  obtain ⟨o2, m2, k2, rfl⟩ := hfv
                  unfold zR at S7
                  clear hq' F6 O5 V6
                  go_upto_region 23 with (refine wpl_store S7 rfl rfl rfl rfl rfl ?_)
                  clear S7 O6 B7
                  generalize w6.heap.size = B2 at *
                  obtain ⟨AX, VX⟩ := own_x O7 1 rfl
                  have L9 := at_loads AX
                  have L11 := at_loads A7
                  have SM := same_any q' VX V7 (by have := SH.out.len; omega)
                  clear AX VX A7 V7
                  go_wp2_with (first | refine wpl_load_in L9 rfl rfl rfl ?_ | refine wpl_load_in L11 rfl rfl rfl ?_)
                  refine SM.mono ?_
                  rintro e w8 ⟨rfl, F8⟩
                  have O8 := O7.below F8
                  clear SM L9 L11 O7 F8
                  obtain ⟨Y, hY⟩ : ∃ Y, X.extract nn X.size = Y := ⟨_, rfl⟩
                  have hYl : (ls X).drop nn = ls Y := by rw [← hY, ls_extract, List.take_of_length_le (by rw [List.length_drop, ls_len]; exact Nat.le_refl _)]
                  have hYz : Y.size ≤ 16384 := by have := congrArg List.length hYl; rw [ls_len, List.length_drop, ls_len] at this; omega
                  rw [hYl] at O8
                  clear hYl
                  go_wp2_with fail
                  try rw [hY]
                  clear hY
                  have CL := own_left O8 0 rfl (by rw [ls_len]; omega)
                  go_wp2_with fail
                  refine CL.mono ?_
                  rintro e w9 ⟨rfl, O9⟩
                  clear CL O8
                  rw [ls_len]
                  go_wp2
                  go_roundw
                  case rel => exact ⟨Y, m + 1, rfl, rfl, by go_num, hYz, own_drop O9 1 rfl⟩
                  case measure => simp [intOf]; omega
              · have l3 : ¬ (m : Int) < 40 := by omega
                go_wp2
                go_roundw
                case rel => exact ⟨X, 0, k + 1, rfl, rfl, by go_num, ⟨by omega, hXz, by decide, O⟩⟩
                case measure => simp [intOf]; omega
          · have gS : (S != 0) = true := by rw [bne_iff_ne]; exact hS
            have CA := own_add_bad J.own 0 rfl hS q
            have HJ := Lib.hid J
            clear J
            go_wp2_with fail
            refine CA.mono ?_
            rintro e w3 ⟨rfl, rfl⟩
            clear CA hcell ha
            go_wp2_with fail
            go_loopw [4, 5, 8] (fun a s i wu => wu = wr ∧ a = .string IN ∧ s = .int .i64 S ∧ i = .int .i64 0) (fun _ _ _ _ => 0)
            case atStart => exact ⟨rfl, rfl, rfl, rfl⟩
            case round =>
              obtain ⟨rfl, rfl, rfl, rfl⟩ := hrel
              have O := HJ.out.own
              have hS200 := HJ.out.s200
              have hINz := HJ.out.sz
              clear HJ
              have rr := fun w => rread12_any IN w (by omega)
              have gb0 : (S == 0) = false := by rw [beq_eq_false_iff_ne]; exact hS
              have gb2 : (S != 200) = true := by rw [bne_iff_ne]; exact hS200
              have NX := own_again O 0 rfl hS
              clear O
              go_wp2_with fail
              refine NX.mono ?_
              rintro e w4 ⟨rfl, O4⟩
              clear NX
              replace O4 : Owns wa noZ w4 [inT p (ls IN) S, noT] := O4
              obtain ⟨w5, S5, O5⟩ := own_zero O4 1 rfl
              replace O5 : Owns wa noZ w5 [inT p (ls IN) S, xT w4.heap.size q0 (.slice none 0 0)] := O5
              unfold zR at S5
              go_upto_region 22 with (refine wpl_store S5 rfl rfl rfl rfl rfl ?_)
              clear S5 O4
              generalize w4.heap.size = B1 at *
              go_wp2_with fail
              refine (rr _).mono ?_
              rintro e w6 HP
              clear rr
              obtain ⟨st, hst, rfl, F6⟩ | ⟨q', nn, fv, hq', rfl, V6, hfv, F6⟩ := HP
              · have O6 := O5.below F6
                obtain ⟨w7, S7, A7, V7, B7⟩ := box_new (q := q0) (fv := .slice none 0 0) w6 (none_fds _) ⟨_, _, _, rfl⟩
                rw [rqV_zero] at S7
                have O7 := O6.below B7
                unfold zR at S7
                clear O5 F6
                go_upto_region 23 with (refine wpl_store S7 rfl rfl rfl rfl rfl ?_)
                clear S7 V7
                have hB2 : w.heap.size ≤ w6.heap.size := Nat.le_trans BA.out.size O6.bel.size
                have lt2 := A7.lt
                have S9 := A7.stores (P := Tryz.prog) (ty := 30) (ds := zR) (by kernel_rfl) rfl zR_ones
                have A9 := A7.row zR
                have OW : Owns wa noZ (w7.setRow w6.heap.size zR) [inT p (ls IN) S, xT B1 q0 (.slice none 0 0)] := O6.below (below_row B7 (Nat.le_refl _))
                clear O7 A7 O6 B7
                unfold zR at S9
                generalize hw9 : World.setRow w7 w6.heap.size zR = w9 at A9 OW
                unfold zR at hw9
                rw [hw9] at S9
                clear hw9
                generalize w6.heap.size = B2 at *
                go_upto_region 25 with (refine wpl_store S9 rfl rfl rfl rfl rfl ?_)
                clear S9
                have O7 := OW
                have A7 : At w9 B2 30 (rqV q0 (.slice none 0 0)) := A9
                have V7 : FdsAt w9 (.slice none 0 0) q0.fs := none_fds _
                clear OW A9
                obtain ⟨AX, VX⟩ := own_x O7 1 rfl
                have L9 := at_loads AX
                have L11 := at_loads A7
                have SM := same_any q0 VX V7 (by decide)
                clear AX VX A7 V7
                go_wp2_with (first | refine wpl_load_in L9 rfl rfl rfl ?_ | refine wpl_load_in L11 rfl rfl rfl ?_)
                refine SM.mono ?_
                rintro e w8 ⟨rfl, F8⟩
                have O8 := O7.below F8
                clear SM L9 L11 O7 F8
                go_wp2_with fail
                try rw [cut_zero]
                have CL := own_left O8 0 rfl (by rw [ls_len]; omega)
                go_wp2_with fail
                refine CL.mono ?_
                rintro e w9 ⟨rfl, O9⟩
                clear CL O8
                rw [ls_len]
                go_wp2
                go_roundw
                case rel => exact ⟨IN, S, k + 1, rfl, rfl, by go_num, ⟨by omega, hINz, hS200, own_drop O9 1 rfl⟩⟩
                case measure => simp [intOf]; omega
              · have O6 := O5.below F6
                obtain ⟨w7, S7, A7, V7, B7⟩ := box_new w6 V6 hfv
                obtain ⟨o2, m2, k2, rfl⟩ := hfv
                have O7 := O6.below B7
                unfold zR at S7
                clear O5 F6
                go_upto_region 23 with (refine wpl_store S7 rfl rfl rfl rfl rfl ?_)
                clear S7 V7
                have hB2 : w.heap.size ≤ w6.heap.size := Nat.le_trans BA.out.size O6.bel.size
                have lt2 := A7.lt
                have S9 := A7.stores (P := Tryz.prog) (ty := 30) (ds := zR) (by kernel_rfl) rfl zR_ones
                have A9 := A7.row zR
                have OW : Owns wa noZ (w7.setRow w6.heap.size zR) [inT p (ls IN) S, xT B1 q0 (.slice none 0 0)] := O6.below (below_row B7 (Nat.le_refl _))
                clear O7 A7 O6 B7
                unfold zR at S9
                generalize hw9 : World.setRow w7 w6.heap.size zR = w9 at A9 OW
                unfold zR at hw9
                rw [hw9] at S9
                clear hw9
                generalize w6.heap.size = B2 at *
                go_upto_region 25 with (refine wpl_store S9 rfl rfl rfl rfl rfl ?_)
                clear S9
                have O7 := OW
                have A7 : At w9 B2 30 (rqV q0 (.slice none 0 0)) := A9
                have V7 : FdsAt w9 (.slice none 0 0) q0.fs := none_fds _
                clear OW A9
                obtain ⟨AX, VX⟩ := own_x O7 1 rfl
                have L9 := at_loads AX
                have L11 := at_loads A7
                have SM := same_any q0 VX V7 (by decide)
                clear AX VX A7 V7
                go_wp2_with (first | refine wpl_load_in L9 rfl rfl rfl ?_ | refine wpl_load_in L11 rfl rfl rfl ?_)
                refine SM.mono ?_
                rintro e w8 ⟨rfl, F8⟩
                have O8 := O7.below F8
                clear SM L9 L11 O7 F8
                go_wp2_with fail
                try rw [cut_zero]
                have CL := own_left O8 0 rfl (by rw [ls_len]; omega)
                go_wp2_with fail
                refine CL.mono ?_
                rintro e w9 ⟨rfl, O9⟩
                clear CL O8
                rw [ls_len]
                go_wp2
                go_roundw
                case rel => exact ⟨IN, S, k + 1, rfl, rfl, by go_num, ⟨by omega, hINz, hS200, own_drop O9 1 rfl⟩⟩
                case measure => simp [intOf]; omega
    · have BE := BA.out.trans (J.own.bel.mono BA.out.size)
      by_cases h1 : k < n
      · have l1 : (k : Int) < (n : Int) := by omega
        have l2 : ¬ (k : Int) < 30 := by omega
        clear J
        go_wp2
        go_ret
        exact ⟨rfl, BE⟩
      · have l1 : ¬ (k : Int) < (n : Int) := by omega
        clear J
        go_wp2
        go_ret
        exact ⟨rfl, BE⟩
end Go.Proofs.YtbngfphiachnoaaGreatDoor.In
