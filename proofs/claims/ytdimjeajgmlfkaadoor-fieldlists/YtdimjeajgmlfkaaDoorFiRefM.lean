/-
  Contract of Params of the document's answers.
-/
import Derived.Test.YtdimjeajgmlfkaaDoorFiRefC
import Derived.Test.YtdimjeajgmlfkaaDoorFiRefQ
import Derived.Test.YtdimjeajgmlfkaaDoorFiParams
namespace Go.Proofs.YtdimjeajgmlfkaaDoor.Fi
open Go.RowKit Go.PlainAid
open Hx
set_option linter.unusedVariables false
set_option maxRecDepth 20000
set_option linter.unusedSimpArgs false

theorem cut_ex2 {b : UInt8} {s : ByteArray} {x y : List UInt8} (h : cutB b (ls s) = some (x, y)) : ls (s.extract 0 x.length) = x ∧ ls (s.extract (x.length + 1) s.size) = y ∧ x.length < s.size := by
  have e := (cutB_some h).1
  have l := congrArg List.length e
  rw [ls_len] at l
  simp at l
  refine ⟨?_, ?_, by omega⟩
  · rw [ls_extract, List.drop_zero, Nat.sub_zero, e]; simp
  · rw [ls_extract, e, show x ++ b :: y = (x ++ [b]) ++ y by simp, List.drop_left' (by simp)]
    exact List.take_of_length_le (by omega)
theorem fill_zero {q : ByteArray} {qs : List ByteArray} (h : q.size = 0) : fillF (q :: qs) = fillF qs := by
  unfold fillF
  rw [List.filter_cons, if_neg (by simp [h])]
theorem fill_more {q : ByteArray} {qs : List ByteArray} (h : 0 < q.size) : fillF (q :: qs) = q :: fillF qs := by
  unfold fillF
  rw [List.filter_cons, if_pos (decide_eq_true (by omega))]
set_option maxRecDepth 200000 in
set_option maxHeartbeats 8000000 in
theorem refParams_any (s : ByteArray) (w : World) (hs : s.size ≤ 100000) :
    Calls Tryd.prog 31 #[.string s] w (ParPost (pmF s) w) := by
  have ct := refCut_any s 59 59 (Lib.hid rfl) (by decide) (by decide) (by decide) w (by omega)
  have cb := cutA_bound 59 (ls s)
  have cn := cutQ_ne 59 (ls s).length (ls s) false [] (Nat.le_refl _)
  rw [ls_len] at cb
  have hA : ∃ p ps, (cutA 59 (ls s)).map tx = p :: ps ∧ ps = ((cutA 59 (ls s)).drop 1).map tx ∧ ps.length ≤ s.size ∧ ∀ q ∈ p :: ps, q.size ≤ s.size := by
    cases hq : cutA 59 (ls s) with
    | nil => exact absurd hq cn
    | cons a l =>
      rw [hq] at cb
      refine ⟨tx a, l.map tx, rfl, rfl, ?_, fun q hm => ?_⟩
      · have := cb.1
        rw [List.length_map]
        simp at this; omega
      · rw [← List.map_cons] at hm
        obtain ⟨b, hb, rfl⟩ := List.mem_map.1 hm
        rw [tx_size]
        exact cb.2 b hb
  obtain ⟨p, ps, h1, h2, h3, h4⟩ := hA
  have PN := pm_none (s := s)
  have PS := fun l => pm_some (s := s) (l := l)
  rw [← h2, h1] at PS
  rw [← h2] at PN
  rw [h1] at ct
  clear h1 h2 cb cn
  have HN := Lib.hid PN
  have HS := Lib.hid PS
  have HB := Lib.hid h4
  clear PN PS h4
  obtain ⟨i0, hi, hz0, hz1, hz2⟩ := info_parts infoFd
  generalize hR : parsF (fillF ps) [] = R at HN HS
  obtain ⟨ss, hss⟩ : ∃ ss, ss = p :: ps := ⟨_, rfl⟩
  have H0 : Hid (ss[0]? = some p) := Lib.hid (by rw [hss]; rfl)
  have HR : Hid (parsF (fillF (ss.drop 1)) [] = R) := Lib.hid (by rw [hss]; exact hR)
  have nl : ss.length = ps.length + 1 := by rw [hss]; rfl
  rw [← hss] at ct HB
  clear hR hss
  obtain ⟨n, hn⟩ : ∃ n, n = ss.length := ⟨_, rfl⟩
  rw [← hn] at nl
  have HNN := Lib.hid hn
  have n1 : (0 : Int) < (n : Int) := by omega
  have n2 : n ≤ 100001 := by omega
  have n3 : 1 ≤ n := by omega
  clear hn nl h3
  go_enter Tryd.func31, Tryd.ntmps31
  go_wp2_with fail
  refine ct.mono ?_
  rintro e w1 ⟨v1, rfl, own1, F1⟩
  rw [← HNN.out] at own1
  obtain ⟨b1, c1, rfl⟩ := own_shape own1
  have V1 := Lib.hid (show StrsAt w1 (.slice b1 n c1) ss by rw [HNN.out] at own1 ⊢; exact owns_strs own1)
  have H1 := Lib.hid F1
  clear ct own1 F1
  have O1 : (w1.alloc (.cells #[] 23)).ownsRow w1.heap.size 23 2 (.slice (some ⟨w1.heap.size, 0, none⟩) 0 0) 0 [] := World.ownsRow_made w1 #[] 0 (Nat.le_refl _) (Nat.zero_le _) rfl
  have B1 : Below w1.heap.size w1 (w1.alloc (.cells #[] 23)) := (Below.refl _ _).alloc (Nat.le_refl _) _
  go_wp2
  go_loopw [6, 7] (fun v i wr => ∃ (k m : Nat) (acc : List Fd) (b : Option Addr) (c : Nat), 1 ≤ k ∧ k ≤ n ∧ m ≤ k ∧ i = .int .i64 k ∧ v = .slice b m c ∧ Hid (m = acc.length) ∧ wr.ownsRow w1.heap.size 23 2 (.slice b m c) m (fdsL acc) ∧ Below w1.heap.size w1 wr ∧ Hid (parsF (fillF (ss.drop k)) acc = R)) (fun _ i _ => n - (intOf i).toNat)
  case atStart => exact ⟨1, 0, [], _, _, Nat.le_refl _, n3, Nat.zero_le _, rfl, rfl, Lib.hid rfl, O1, B1, HR⟩
  case round =>
    clear O1 B1 HR
    obtain ⟨k, m, acc, b, c, hk1, hk, hm, rfl, rfl, HM, own, bel, INV⟩ := hrel
    have hN := bel.size
    by_cases hlt : k < n
    · obtain ⟨q, hq⟩ : ∃ q, ss[k]? = some q := ⟨ss[k]'(by have := HNN.out; omega), List.getElem?_eq_getElem _⟩
      obtain ⟨a, rfl, ha, hcell⟩ := (V1.out.below bel).at hq
      have hqs := HB.out q (List.mem_of_getElem? hq)
      have hd : ss.drop k = q :: ss.drop (k + 1) := by
        have hk2 := (List.getElem?_eq_some_iff.1 hq).1
        rw [List.drop_eq_getElem_cons hk2]
        congr 1
        exact (List.getElem?_eq_some_iff.1 hq).2
      have l1 : (k : Int) < (n : Int) := by omega
      have C1 := Lib.hid (show ∀ w2, Below wr.heap.size wr w2 → w2.cell? (a.add k) = some (.string q) from fun w2 hb => by
        rw [World.cell?_of_block (w := wr) (by rw [add_block]; exact hb.block _ ha)]; exact hcell)
      by_cases h0 : q.size = 0
      · have e1 := toList_nil q h0
        have I2 := Lib.hid (show parsF (fillF (ss.drop (k + 1))) acc = R by rw [← INV.out, hd, fill_zero h0])
        clear hq hd INV h0 C1
        go_wp2
        go_roundw
        case rel => exact ⟨k + 1, m, acc, b, c, by omega, by omega, by omega, by go_num, rfl, HM, own, bel, I2⟩
        case measure => simp [intOf]; omega
      have e1 := toList_ne q (by omega)
      have e2 := toList_ne' q (by omega)
      have IP : parsF (q :: fillF (ss.drop (k + 1))) acc = R := by rw [← INV.out, hd, fill_more (by omega)]
      have BAD : Hid (parF (ls q) = none → pmF s = ⟨⟨#[]⟩, [], 3⟩) := Lib.hid fun h => HN.out (by rw [← IP, parsF_none acc h])
      have GOOD : Hid (∀ f, parF (ls q) = some f → parsF (fillF (ss.drop (k + 1))) (acc ++ [f]) = R) := Lib.hid fun f h => by rw [← IP, parsF_some acc h]
      clear hq hd INV h0 IP
      cases hc : cutB 61 (ls q) with
      | none =>
        have Q := Lib.hid (BAD.out (parF_cut_none hc))
        have fd : ∀ w, Calls Tryd.prog 38 #[.string q, .int .u8 61] w fun e w' => e = .returned (.int .i64 (-1)) ∧ w = w' := fun w => by
          have := refFind_any q 61 w (by omega)
          rw [find_no hc] at this
          exact this
        clear hc BAD GOOD C1
        go_wp2_with fail
        refine (fd _).mono ?_
        rintro e w2 ⟨rfl, rfl⟩
        clear fd
        go_wp2
        go_ret3
        exact ⟨_, by rw [Q.out]; rfl, by rw [Q.out]; exact none_fds _, H1.out.trans (bel.mono H1.out.size)⟩
      | some xy =>
        obtain ⟨x, y⟩ := xy
        obtain ⟨ex, ey, hxk⟩ := cut_ex2 hc
        obtain ⟨t, htx⟩ : ∃ t, t = x.length := ⟨_, rfl⟩
        rw [← htx] at ex ey hxk
        have fd : ∀ w, Calls Tryd.prog 38 #[.string q, .int .u8 61] w fun e w' => e = .returned (.int .i64 (t : Int)) ∧ w = w' := fun w => by
          have := refFind_any q 61 w (by omega)
          rw [find_yes hc, ← htx] at this
          exact this
        have k0 : (0 : Int) ≤ (t : Int) := Int.natCast_nonneg _
        have k1 : (t : Int) ≤ (q.size : Int) := by omega
        have k2 : (t : Int) + 1 ≤ (q.size : Int) := by omega
        have g0 : ¬ (t : Int) < 0 := by omega
        have z1 : (q.extract 0 t).size ≤ 100000 := by rw [ByteArray.size_extract]; omega
        have z2 : (q.extract (t + 1) q.size).size ≤ 100000 := by rw [ByteArray.size_extract]; omega
        have tok := fun w => refIsToken_any (q.extract 0 t) w (by omega)
        have lo := fun w => refLow_any (q.extract 0 t) w (by omega)
        have uq := fun w => refUnquoted_any (q.extract (t + 1) q.size) w (by omega)
        rw [ex] at tok lo
        rw [ey] at uq
        unfold RuPost at uq
        cases h1 : isTok x with
        | false =>
          have Q := Lib.hid (BAD.out (parF_cut_bad hc (.inl h1)))
          rw [h1] at tok
          clear hc h1 lo uq ex ey htx BAD GOOD
          go_wp2_with fail
          refine (fd _).mono ?_
          rintro e w2 ⟨rfl, rfl⟩
          clear fd
          go_wp2_with fail
          refine (tok _).mono ?_
          rintro e w2 ⟨rfl, rfl⟩
          clear tok
          go_wp2
          go_ret3
          exact ⟨_, by rw [Q.out]; rfl, by rw [Q.out]; exact none_fds _, H1.out.trans (bel.mono H1.out.size)⟩
        | true =>
          cases h2 : valF y with
          | none =>
            have Q := Lib.hid (BAD.out (parF_cut_bad hc (.inr h2)))
            rw [h1] at tok
            rw [h2] at uq
            clear hc h1 h2 lo ex ey htx BAD GOOD C1
            go_wp2_with fail
            refine (fd _).mono ?_
            rintro e w2 ⟨rfl, rfl⟩
            clear fd
            go_wp2_with fail
            refine (tok _).mono ?_
            rintro e w2 ⟨rfl, rfl⟩
            clear tok
            go_wp2_with fail
            refine (uq _).mono ?_
            rintro e w2 ⟨T, rfl, _, G⟩
            clear uq
            go_wp2
            go_ret3
            exact ⟨_, by rw [Q.out]; rfl, by rw [Q.out]; exact none_fds _, H1.out.trans ((bel.trans (G.mono hN)).mono H1.out.size)⟩
          | some vv =>
            have I2 := Lib.hid (GOOD.out _ (parF_cut hc h1 h2))
            rw [h1] at tok
            rw [h2] at uq
            clear hc h1 h2 ex ey htx BAD GOOD
            go_wp2_with fail
            refine (fd _).mono ?_
            rintro e w2 ⟨rfl, rfl⟩
            clear fd
            go_wp2_with fail
            refine (tok _).mono ?_
            rintro e w2 ⟨rfl, rfl⟩
            clear tok
            go_wp2_with fail
            refine (uq _).mono ?_
            rintro e w2 ⟨T0, rfl, hT, G⟩
            obtain rfl : T0 = tx vv := hT vv rfl
            clear hT uq
            generalize tx vv = T at I2 ⊢
            generalize tx (low x) = LX at lo I2
            have bel2 := bel.trans (G.mono hN)
            have own2 := owns_below own G
            have hcell2 := C1.out w2 G
            clear own bel
            go_wp2_with fail
            refine (lo _).mono ?_
            rintro e w3 ⟨rfl, G3⟩
            have bel3 := bel2.trans (G3.mono bel2.size)
            have own3 := owns_below own2 G3
            have hN3 := bel3.size
            clear lo own2 bel2 hcell2 G G3 C1 hcell
            go_wp2_with (first | refine wpl_build (fdV_size ⟨LX, T⟩) rfl rfl rfl ?_ | (at_builtin; refine wpList_append_own _ rfl _ _ 35 rfl w1.heap.size 23 i0 (.agg #[.string ⟨#[]⟩, .string ⟨#[]⟩]) 2 32 Tryd.underlying35 hi hz0 hz1 hz2 rfl (by decide) _ _ _ rfl (own3.alloc _) ⟨w3.heap.size, 0, none⟩ 1 1 (fdL ⟨LX, T⟩) rfl rfl (new_fd w3 ⟨LX, T⟩) (fdL_one _) (by unfold maxLen; omega) (by omega) (by simp; omega) ?_; intro v' w5 own5 hgrow hcb))
            have own6 : w5.ownsRow w1.heap.size 23 2 v' (m + 1) (fdsL (acc ++ [⟨LX, T⟩])) := by
              rw [fdsL_snoc]
              exact own5
            have bel6 := (bel3.alloc hN3 (.cells (fdV ⟨LX, T⟩) 23)).grown hgrow (by simp; omega) (fun j hj => (own3.lt j hj).1)
            clear own5 own3 bel3 hgrow
            obtain ⟨b', c', rfl⟩ := own_shape own6
            go_roundw
            case rel => exact ⟨k + 1, m + 1, acc ++ [⟨LX, T⟩], b', c', by omega, by omega, by omega, by go_num, rfl, Lib.hid (by rw [List.length_append, ← HM.out]; rfl), own6, bel6, I2⟩
            case measure => simp [intOf]; omega
    · have l1 : ¬ (k : Int) < (n : Int) := by omega
      have hRs : R = some acc := by rw [← INV.out, List.drop_of_length_le (by have := HNN.out; omega)]; rfl
      have Q := Lib.hid (HS.out acc hRs)
      obtain ⟨a, rfl, ha, hcell⟩ := (V1.out.below bel).at H0.out
      rw [show a.add 0 = a by unfold Addr.add; rw [if_pos rfl]] at hcell
      have V3 : FdsAt wr (.slice b m c) acc := by
        have := HM.out
        subst this
        exact owns_fds own
      clear INV hRs own
      go_wp2
      go_ret3
      exact ⟨_, by rw [Q.out]; rfl, by rw [Q.out]; exact V3, H1.out.trans (bel.mono H1.out.size)⟩
end Go.Proofs.YtdimjeajgmlfkaaDoor.Fi
