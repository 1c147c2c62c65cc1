/-
  FieldNames, walked: a field is found by its name in great letters and in small ones.
-/
import Derived.Test.YtdimjeajgmlfkaaDoorFiOpen
import Derived.Test.YtdimjeajgmlfkaaDoorFiQuo
namespace Go.Proofs.YtdimjeajgmlfkaaDoor.Fi
open Go.RowKit Go.PlainAid
open Go.ChangeShapes Go.WideShapes Go.ChangeAt
open Go.ChangeMaps (open_string shut_string)
open Hx
set_option linter.unusedVariables false
set_option maxRecDepth 20000
set_option linter.unusedSimpArgs false

theorem cut_num (x : Int) (n : Nat) (hn : 0 < n) (h60 : n ≤ 60) : ∃ k : Nat, k < n ∧ wrap64 ((IntKind.u64.wrap x).tmod (n : Int)) = (k : Int) := by
  have h0 : 0 ≤ IntKind.u64.wrap x := by rw [IntKind.wrap_u64]; omega
  rw [Int.tmod_eq_emod_of_nonneg h0]
  have h1 := Int.emod_nonneg (IntKind.u64.wrap x) (show (n : Int) ≠ 0 by omega)
  have h2 := Int.emod_lt_of_pos (IntKind.u64.wrap x) (show 0 < (n : Int) by omega)
  generalize IntKind.u64.wrap x % (n : Int) = y at h1 h2
  refine ⟨y.toNat, by omega, ?_⟩
  unfold wrap64; omega
/-- a letter made great -/
def upN (c : Int) : Int := if 97 ≤ c ∧ c ≤ 122 then c - 32 else c
def upB (c : UInt8) : UInt8 := UInt8.ofNat (upN (c.toNat : Int)).toNat
theorem upB_nat (c : UInt8) : ((upB c).toNat : Int) = upN (c.toNat : Int) := by
  have := c.toNat_lt
  unfold upB upN
  rw [UInt8.toNat_ofNat']
  split <;> omega
theorem low_up (c : UInt8) : lowB (upB c) = lowB c := by
  apply (lowB_eq _ _).1
  rw [upB_nat]
  unfold upN lowN
  have := c.toNat_lt
  repeat' split
  all_goals omega
theorem low_low (c : UInt8) : lowB (lowB c) = lowB c := by
  apply (lowB_eq _ _).1
  rw [lowB_nat]
  unfold lowN
  repeat' split
  all_goals omega
/-- the first k letters made great -/
def gmix (s : ByteArray) (k : Nat) : List UInt8 := ((ls s).take k).map upB ++ (ls s).drop k
theorem gmix_zero (s : ByteArray) : gmix s 0 = ls s := by simp [gmix]
theorem gmix_len (s : ByteArray) (k : Nat) : (gmix s k).length = s.size := by
  unfold gmix
  rw [List.length_append, List.length_map, ← List.length_append, List.take_append_drop, ls_len]
theorem gmix_end (s : ByteArray) (k : Nat) (h : s.size ≤ k) : gmix s k = (ls s).map upB := by
  unfold gmix
  rw [List.take_of_length_le (by rw [ls_len]; exact h), List.drop_of_length_le (by rw [ls_len]; exact h), List.append_nil]
theorem gmix_step (s : ByteArray) (k : Nat) (h : k < s.size) : ∃ c, (gmix s k)[k]? = some c ∧ (mixL s k)[k]? = some c ∧ (gmix s k).set k (upB c) = gmix s (k + 1) ∧ (mixL s k).set k (lowB c) = mixL s (k + 1) := by
  obtain ⟨c, gc, _, _, tc, dc⟩ := get_ls h
  have hlen : (((ls s).take k).map upB).length = k := by rw [List.length_map, List.length_take, ls_len]; omega
  have hlen2 : (low ((ls s).take k)).length = k := by unfold low; rw [List.length_map, List.length_take, ls_len]; omega
  refine ⟨c, ?_, ?_, ?_, ?_⟩
  · unfold gmix
    rw [List.getElem?_append_right (by omega), hlen, Nat.sub_self, dc]; rfl
  · unfold mixL
    rw [List.getElem?_append_right (by omega), hlen2, Nat.sub_self, dc]; rfl
  · unfold gmix
    rw [dc, List.set_append_right _ _ (by omega), hlen, Nat.sub_self, List.set_cons_zero, tc, List.map_append]
    simp
  · unfold mixL
    rw [dc, List.set_append_right _ _ (by omega), hlen2, Nat.sub_self, List.set_cons_zero, tc]
    unfold low
    rw [List.map_append]
    simp
theorem low_great (l : List UInt8) : low (l.map upB) = low l := by
  unfold low
  rw [List.map_map]
  exact List.map_congr_left fun c _ => low_up c
theorem low_small (l : List UInt8) : low (low l) = low l := by
  unfold low
  rw [List.map_map]
  exact List.map_congr_left fun c _ => low_low c
theorem found {xs : List Fd} {x : Fd} (h : x ∈ xs) : 1 ≤ getN (ls x.n) xs ∧ getN (ls x.n) xs ≤ xs.length := by
  refine ⟨?_, valsF_le _ _⟩
  unfold getN valsF
  rw [List.length_map]
  exact List.length_pos_of_mem (List.mem_filter.2 ⟨h, (sameL_iff _ _).2 rfl⟩)
theorem get_low {a b : List UInt8} (h : low a = low b) (xs : List Fd) : getS a xs = getS b xs ∧ getN a xs = getN b xs := by
  unfold getS getN
  rw [valsF_low h]
  exact ⟨rfl, rfl⟩
theorem none_or (w : World) (v : Value) (xs : List Fd) (k : Int) (hv : FdsAt w v xs) (hl : xs.length ≤ 9223372036854775807) (h : xs.length = 0 ∨ 60 < xs.length) :
    Calls Tryd.prog 8 #[v, .int .i64 k] w fun e w' => e = .returned (.bool true) ∧ Below w.heap.size w w' := by
  obtain ⟨base, cap, rfl, _, _⟩ := hv.is
  clear hv
  rcases h with h | h
  · have g : ((xs.length : Int) == 0) = true := by rw [h]; rfl
    go_enter Tryd.func8, Tryd.ntmps8
    go_wp2_with fail
    refine (awake_any _).mono ?_
    rintro e w1 ⟨rfl, F1⟩
    go_wp2
    go_ret
    exact ⟨rfl, F1⟩
  · have g : ((xs.length : Int) == 0) = false := by rw [beq_eq_false_iff_ne]; omega
    have g2 : (60 : Int) < (xs.length : Int) := by omega
    go_enter Tryd.func8, Tryd.ntmps8
    go_wp2_with fail
    refine (awake_any _).mono ?_
    rintro e w1 ⟨rfl, F1⟩
    go_wp2
    go_ret
    exact ⟨rfl, F1⟩
theorem set_self {l : List UInt8} {k : Nat} {c : UInt8} (h : l[k]? = some c) : l.set k c = l := by
  have hk := (List.getElem?_eq_some_iff.1 h).1
  have e := (List.getElem?_eq_some_iff.1 h).2
  rw [← e]
  exact List.set_getElem_self hk
structure Rows2 (w0 w : World) (B C : Nat) (s : ByteArray) (k : Nat) : Prop where
  g : RowB w B (gmix s k)
  l : RowB w C (mixL s k)
set_option maxHeartbeats 4000000 in
theorem main (w : World) (v : Value) (xs : List Fd) (kk : Int) (hv : FdsAt w v xs) (h0 : 0 < xs.length) (h60 : xs.length ≤ 60) (hr : Reach xs) :
    Calls Tryd.prog 8 #[v, .int .i64 kk] w fun e w' => e = .returned (.bool true) ∧ Below w.heap.size w w' := by
  obtain ⟨k, hk, hkk⟩ := cut_num kk xs.length h0 h60
  obtain ⟨x, hx⟩ : ∃ x, xs[k]? = some x := ⟨xs[k], List.getElem?_eq_getElem hk⟩
  have FO := Lib.hid (found (List.mem_of_getElem? hx))
  obtain ⟨base, cap, rfl, _, _⟩ := hv.is
  have g : ((xs.length : Int) == 0) = false := by rw [beq_eq_false_iff_ne]; omega
  have g2 : ¬ (60 : Int) < (xs.length : Int) := by omega
  have g3 : (k : Int) < (xs.length : Int) := by omega
  have hxn := (hr x (List.mem_of_getElem? hx)).1
  have HX := Lib.hid hx
  have HV := Lib.hid hv
  have HR := Lib.hid hr
  clear hx hv hr
  generalize hn : xs.length = n at *
  have HN := Lib.hid hn
  clear hn
  go_enter Tryd.func8, Tryd.ntmps8
  go_wp2_with fail
  refine (awake_any _).mono ?_
  rintro e w1 ⟨rfl, F1⟩
  obtain ⟨a, rfl, ha, L1, _, _⟩ := (HV.out.below F1).loads HX.out
  obtain ⟨w2, S2, A2, G2, Z2⟩ := fd_keep w1 x
  have F2 := F1.trans (G2.mono F1.size)
  have hB1 := A2.lt
  have c0 : w2.cell? ⟨w1.heap.size, 0, none⟩ = some (.string x.n) := A2.cell 0
  by_cases h200 : 200 < x.n.size
  · have g4 : (200 : Int) < (x.n.size : Int) := by omega
    go_wp2_with (first | refine wpl_load L1 rfl rfl rfl ?_ | refine wpl_store S2 rfl rfl rfl rfl rfl ?_)
    go_ret
    exact ⟨rfl, F2⟩
  have g4 : ¬ (200 : Int) < (x.n.size : Int) := by omega
  obtain ⟨cap1, w3, hcv1, R1, F3, hlt1⟩ := bytes_row w2 x.n
  have A3 := A2.old F3
  have F23 := F2.trans (F3.mono F2.size)
  have c3 : w3.cell? ⟨w1.heap.size, 0, none⟩ = some (.string x.n) := A3.cell 0
  obtain ⟨cap2, w4, hcv2, R2, F4, hlt2⟩ := bytes_row w3 x.n
  have A4 := A3.old F4
  have F24 := F23.trans (F4.mono F23.size)
  have J0 : Hid (Rows2 w w4 w2.heap.size w3.heap.size x.n 0) := Lib.hid ⟨by rw [gmix_zero]; exact R1.below F4 hlt1, by rw [mixL_zero]; exact R2⟩
  have P0 : Hid (w2.heap.size < w3.heap.size ∧ w1.heap.size < w2.heap.size ∧ w.heap.size ≤ w2.heap.size ∧ w3.heap.size < w4.heap.size) := Lib.hid ⟨hlt1, hB1, F2.size, hlt2⟩
  go_upto_region 6 with (first | refine wpl_load L1 rfl rfl rfl ?_ | refine wpl_store S2 rfl rfl rfl rfl rfl ?_)
  clear S2 L1 A2 A3 F2 F23 F3 F4 R1 R2 G2 Z2 hB1 F1
  go_upto_region 9 with (fail)
  clear hcv1 c0
  go_upto_region 10 with (fail)
  clear hcv2 c3 hlt1 hlt2
  have hz : x.n.size ≤ 200 := by omega
  go_wp2
  go_loopw [8] (fun i wr => ∃ j : Nat, j ≤ x.n.size ∧ i = .int .i64 j ∧ Hid (Rows2 w wr w2.heap.size w3.heap.size x.n j) ∧ At wr w1.heap.size 23 (fdV x) ∧ Below w.heap.size w wr ∧ Hid (w3.heap.size < wr.heap.size)) (fun i _ => x.n.size - (intOf i).toNat)
  case atStart => exact ⟨0, Nat.zero_le _, rfl, J0, A4, F24, Lib.hid P0.out.2.2.2⟩
  case round =>
    clear J0 A4 F24
    obtain ⟨j, hj, rfl, J, A, F, HL⟩ := hrel
    by_cases hlt : j < x.n.size
    · obtain ⟨c, e1, e2, s1, s2⟩ := gmix_step x.n j hlt
      obtain ⟨d1, f1⟩ := J.out.g.cell j c e1
      obtain ⟨d2, f2⟩ := J.out.l.cell j c e2
      have l1 : (j : Int) < (x.n.size : Int) := by omega
      have hc := c.toNat_lt
      obtain ⟨q1, q2, q3, q4⟩ := P0.out
      have nBC : w2.heap.size ≠ w3.heap.size := by omega
      have nAB : w1.heap.size ≠ w2.heap.size := by omega
      have nAC : w1.heap.size ≠ w3.heap.size := by omega
      have NX := Lib.hid (show Rows2 w wr w2.heap.size w3.heap.size x.n j from J.out)
      by_cases k1 : 97 ≤ c.toNat ∧ c.toNat ≤ 122
      · have u1 : upN (c.toNat : Int) = (c.toNat : Int) - 32 := by unfold upN; rw [if_pos (by omega)]
        have u2 : lowB c = c := by
          apply UInt8.toNat_inj.1
          have := lowB_nat c
          unfold lowN at this
          rw [if_neg (by omega)] at this
          omega
        have N2 := Lib.hid (show Rows2 w (wr.setCell ⟨w2.heap.size, j, none⟩ (.int .u8 ((c.toNat : Int) - 32))) w2.heap.size w3.heap.size x.n (j + 1) from by
          have r := J.out.g.set j (upB c) (by rw [gmix_len]; exact hlt)
          rw [upB_nat, u1, s1] at r
          refine ⟨r, ?_⟩
          rw [u2, set_self e2] at s2
          rw [← s2]
          exact J.out.l.old (Below.heap_setCell _ _ _ _ (show w3.heap.size ≠ w2.heap.size by omega)))
        have A2 := A.other (a := ⟨w2.heap.size, j, none⟩) nAB (.int .u8 ((c.toNat : Int) - 32))
        have F2 := below_set F j (.int .u8 ((c.toNat : Int) - 32)) (B := w2.heap.size) q3
        have t1 : (97 : Int) ≤ (c.toNat : Int) := by omega
        have t2 : (c.toNat : Int) ≤ 122 := by omega
        have t3 : ¬ (c.toNat : Int) ≤ 90 := by omega
        have t4 : (65 : Int) ≤ (c.toNat : Int) := by omega
        have dd : (wr.setCell ⟨w2.heap.size, j, none⟩ (.int .u8 ((c.toNat : Int) - 32))).cell? ⟨w3.heap.size, j, none⟩ = some (.int .u8 (c.toNat : Int)) := by
          rw [World.cell?_setCell_other _ _ _ _ (by intro e; injection e; omega)]; exact d2
        clear J NX s1 s2 e1 e2 u1 u2 k1 hc
        generalize (c.toNat : Int) = C at *
        go_wp2
        go_roundw
        case rel => exact ⟨j + 1, by omega, by go_num, N2, A2, F2, Lib.hid (by have := HL.out; simpa using this)⟩
        case measure => simp [intOf]; omega
      by_cases k2 : 65 ≤ c.toNat ∧ c.toNat ≤ 90
      · have u1 : lowN (c.toNat : Int) = (c.toNat : Int) + 32 := by unfold lowN; rw [if_pos (by omega)]
        have u2 : upB c = c := by
          apply UInt8.toNat_inj.1
          have := upB_nat c
          unfold upN at this
          rw [if_neg (by omega)] at this
          omega
        have N2 := Lib.hid (show Rows2 w (wr.setCell ⟨w3.heap.size, j, none⟩ (.int .u8 ((c.toNat : Int) + 32))) w2.heap.size w3.heap.size x.n (j + 1) from by
          have r := J.out.l.set j (lowB c) (by rw [mixL_len]; exact hlt)
          rw [lowB_nat, u1, s2] at r
          refine ⟨?_, r⟩
          rw [u2, set_self e1] at s1
          rw [← s1]
          exact J.out.g.old (Below.heap_setCell _ _ _ _ (show w2.heap.size ≠ w3.heap.size by omega)))
        have A2 := A.other (a := ⟨w3.heap.size, j, none⟩) nAC (.int .u8 ((c.toNat : Int) + 32))
        have F2 := below_set F j (.int .u8 ((c.toNat : Int) + 32)) (B := w3.heap.size) (by omega)
        have t1 : ¬ (97 : Int) ≤ (c.toNat : Int) := by omega
        have t3 : (c.toNat : Int) ≤ 90 := by omega
        have t4 : (65 : Int) ≤ (c.toNat : Int) := by omega
        clear J NX s1 s2 e1 e2 u1 u2 k1 k2 hc
        generalize (c.toNat : Int) = C at *
        go_wp2
        go_roundw
        case rel => exact ⟨j + 1, by omega, by go_num, N2, A2, F2, Lib.hid (by have := HL.out; simpa using this)⟩
        case measure => simp [intOf]; omega
      · have u1 : upB c = c := by
          apply UInt8.toNat_inj.1
          have := upB_nat c
          unfold upN at this
          rw [if_neg (by omega)] at this
          omega
        have u2 : lowB c = c := by
          apply UInt8.toNat_inj.1
          have := lowB_nat c
          unfold lowN at this
          rw [if_neg (by omega)] at this
          omega
        have N2 := Lib.hid (show Rows2 w wr w2.heap.size w3.heap.size x.n (j + 1) from by
          rw [u1, set_self e1] at s1
          rw [u2, set_self e2] at s2
          refine ⟨?_, ?_⟩
          · rw [← s1]; exact J.out.g
          · rw [← s2]; exact J.out.l)
        have hcase : (c.toNat : Int) < 65 ∨ (90 < (c.toNat : Int) ∧ (c.toNat : Int) < 97) ∨ 122 < (c.toNat : Int) := by omega
        clear J NX s1 s2 e1 e2 u1 u2 k1 k2 hc
        generalize (c.toNat : Int) = C at *
        rcases hcase with hc | ⟨hc, hc2⟩ | hc
        all_goals
          go_wp2
          go_roundw
          case rel => exact ⟨j + 1, by omega, by go_num, N2, A, F, Lib.hid HL.out⟩
          case measure => simp [intOf]; omega
    · have l1 : ¬ (j : Int) < (x.n.size : Int) := by omega
      obtain ⟨q1, q2, q3, q4⟩ := P0.out
      have hh := HL.out
      have RG : RowB wr w2.heap.size ((ls x.n).map upB) := by have := J.out.g; rwa [gmix_end x.n j (by omega)] at this
      have RL : RowB wr w3.heap.size (low (ls x.n)) := by have := J.out.l; rwa [mixL_end x.n j (by omega)] at this
      have lg : ((ls x.n).map upB).length = x.n.size := by rw [List.length_map, ls_len]
      have ll : (low (ls x.n)).length = x.n.size := by unfold low; rw [List.length_map, ls_len]
      have gl1 := get_low (a := (ls x.n).map upB) (b := ls x.n) (low_great _) xs
      have gl2 := get_low (a := low (ls x.n)) (b := ls x.n) (low_small _) xs
      have r1 := get_any x.n (HV.out.below F) (by have := HN.out; omega) (by omega) HR.out
      have cx : wr.cell? ⟨w1.heap.size, 0, none⟩ = some (.string x.n) := A.cell 0
      have FB := FO.out

      have gN1 : (1 : Int) ≤ (getN (ls x.n) xs : Int) := by omega
      have gN2 : (getN (ls x.n) xs : Int) ≤ (n : Int) := by omega
      clear J HL P0 FB
      go_wp2_with fail
      refine r1.mono ?_
      rintro e w5 ⟨rfl, G5⟩
      have F5 := F.trans (G5.mono F.size)
      have CG := (RG.below G5 (by omega)).conv (cap := cap1) lg
      have r2 := get_any (tx ((ls x.n).map upB)) (HV.out.below F5) (by have := HN.out; omega) (by rw [tx_size, lg]; omega) HR.out
      rw [ls_tx, gl1.1, gl1.2] at r2
      have RL5 := RL.below G5 (by omega)
      have hh5 := G5.size
      clear r1 RG RL cx A F
      generalize tx ((ls x.n).map upB) = TG at CG r2
      go_wp2_with fail
      refine r2.mono ?_
      rintro e w6 ⟨rfl, G6⟩
      have F6 := F5.trans (G6.mono F5.size)
      have CL := (RL5.below G6 (by omega)).conv (cap := cap2) ll
      have r3 := get_any (tx (low (ls x.n))) (HV.out.below F6) (by have := HN.out; omega) (by rw [tx_size, ll]; omega) HR.out
      rw [ls_tx, gl2.1, gl2.2] at r3
      clear r2 CG RL5 F5 G5
      generalize tx (low (ls x.n)) = TL at CL r3
      go_wp2_with fail
      refine r3.mono ?_
      rintro e w7 ⟨rfl, G7⟩
      have F7 := F6.trans (G7.mono F6.size)
      clear r3 CL F6 G6 G7 gl1 gl2
      generalize getS (ls x.n) xs = S at *
      generalize getN (ls x.n) xs = N at *
      go_wp2
      go_ret
      exact ⟨rfl, F7⟩
theorem walkNames {v : Value} (xs : List Fd) (k : Int) (w : World) (hv : FdsAt w v xs) (hl : xs.length ≤ 9223372036854775807) (ho : ∀ y ∈ xs, y.Ok) (hr : Reach xs) (w1 : (Lit.int .i64 k).wf = true) :
    Calls Tryd.prog 8 #[v, .int .i64 k] w fun e w' => e = .returned (.bool true) ∧ Below w.heap.size w w' := by
  by_cases h : xs.length = 0 ∨ 60 < xs.length
  · exact none_or w v xs k hv hl h
  · exact main w v xs k hv (by omega) (by omega) hr
end Go.Proofs.YtdimjeajgmlfkaaDoor.Fi
