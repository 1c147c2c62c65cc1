/-
  Contract of cut of package field: the trimmed parts of a value between marks that aren't in quotes.
-/
import Derived.Test.YtdimjeajgmlfkaaDoorFiPlain
namespace Go.Proofs.YtdimjeajgmlfkaaDoor.Fi
open Go.RowKit Go.PlainAid
open Hx
set_option linter.unusedVariables false
set_option maxRecDepth 20000
set_option linter.unusedSimpArgs false

/-- where the walk of cut stands -/
structure CutInv (mark : UInt8) (s : ByteArray) (k b : Nat) (q : Bool) (ps : List ByteArray) : Prop where
  inv : (cutA mark (ls s)).map tx = ps ++ (cutQ mark ((ls s).drop k) q (((ls s).take k).drop b)).map tx
theorem CutInv.zero (mark : UInt8) (s : ByteArray) : CutInv mark s 0 0 false [] := ⟨by simp [cutA]⟩
section
variable {mark : UInt8} {s : ByteArray} {k b : Nat} {q : Bool} {ps : List ByteArray}
theorem part_snoc (hk : k < s.size) (hb : b ≤ k) {c : UInt8} (ht : (ls s).take (k + 1) = (ls s).take k ++ [c]) : ((ls s).take (k + 1)).drop b = ((ls s).take k).drop b ++ [c] := by
  rw [ht, List.drop_append_of_le_length (by rw [List.length_take, ls_len]; omega)]
theorem CutInv.quote (h : CutInv mark s k b q ps) (hk : k < s.size) (hb : b ≤ k) (e : bt s k = 34) : CutInv mark s (k + 1) b (!q) ps := by
  obtain ⟨c, _, ec, _, tc, dc⟩ := get_ls hk
  have : c = 34 := (byte_eq c 34).1 (by rw [← ec, e]; rfl)
  subst this
  refine ⟨?_⟩
  rw [h.inv, dc, cutQ_quote, part_snoc hk hb tc]
theorem CutInv.esc (h : CutInv mark s k b true ps) (hk : k < s.size) (hb : b ≤ k) (e : bt s k = 92) : CutInv mark s (k + 2) b true ps := by
  obtain ⟨c, _, ec, _, tc, dc⟩ := get_ls hk
  have : c = 92 := (byte_eq c 92).1 (by rw [← ec, e]; rfl)
  subst this
  refine ⟨?_⟩
  by_cases h1 : k + 1 < s.size
  · obtain ⟨d, _, _, _, td, dd⟩ := get_ls h1
    rw [h.inv, dc, dd, cutQ_esc, part_snoc (k := k + 1) h1 (by omega) td, part_snoc hk hb tc, List.append_assoc]
    rfl
  · have e1 : (ls s).drop (k + 1) = [] := List.drop_of_length_le (by rw [ls_len]; omega)
    have e2 : (ls s).drop (k + 2) = [] := List.drop_of_length_le (by rw [ls_len]; omega)
    have e3 : (ls s).take (k + 2) = (ls s).take (k + 1) := by rw [List.take_of_length_le (by rw [ls_len]; omega), List.take_of_length_le (by rw [ls_len]; omega)]
    rw [h.inv, dc, e1, cutQ_last, e2, cutQ_nil, e3, part_snoc hk hb tc]
theorem CutInv.next (h : CutInv mark s k b false ps) (hm : mark ≠ 34) (hk : k < s.size) (hb : b ≤ k) (e : bt s k = (mark.toNat : Int)) : CutInv mark s (k + 1) (k + 1) false (ps ++ [tx (trimT (ls (s.extract b k)))]) := by
  obtain ⟨c, _, ec, _, tc, dc⟩ := get_ls hk
  have : c = mark := (byte_eq c mark).1 (by rw [← ec, e])
  subst this
  refine ⟨?_⟩
  have e1 : ((ls s).take (k + 1)).drop (k + 1) = [] := List.drop_of_length_le (by rw [List.length_take]; omega)
  rw [h.inv, dc, cutQ_mark _ hm, e1, ls_extract, List.drop_take]
  simp
theorem CutInv.else (h : CutInv mark s k b q ps) (hk : k < s.size) (hb : b ≤ k) (h1 : ¬ (q = true ∧ bt s k = 92)) (h2 : bt s k ≠ 34) (h3 : ¬ (bt s k = (mark.toNat : Int) ∧ q = false)) : CutInv mark s (k + 1) b q ps := by
  obtain ⟨c, _, ec, _, tc, dc⟩ := get_ls hk
  refine ⟨?_⟩
  rw [h.inv, dc, cutQ_else mark c q _ _ (fun x => h1 ⟨x.1, by rw [ec, x.2]; rfl⟩) (fun x => h2 (by rw [ec, x]; rfl)) (fun x => h3 ⟨by rw [ec, x.1], x.2⟩), part_snoc hk hb tc]
theorem CutInv.end (h : CutInv mark s k b q ps) (hk : s.size ≤ k) : (cutA mark (ls s)).map tx = ps ++ [tx (trimT (ls (s.extract b s.size)))] := by
  rw [h.inv, List.drop_of_length_le (by rw [ls_len]; exact hk), cutQ_nil, List.take_of_length_le (by rw [ls_len]; exact hk), ls_extract]
  rw [List.take_of_length_le (l := (ls s).drop b) (by rw [List.length_drop, ls_len]; exact Nat.le_refl _)]
  rfl
end
def CutRel (mark : UInt8) (s : ByteArray) (w : World) (v i0 i1 i2 : Value) (wr : World) : Prop :=
  ∃ (k b m : Nat) (q : Bool) (ps : List ByteArray) (base : Option Addr) (cap : Nat), k ≤ s.size + 1 ∧ b ≤ k ∧ b ≤ s.size ∧ m ≤ k ∧ i0 = .int .i64 b ∧ i1 = .bool q ∧ i2 = .int .i64 k ∧ v = .slice base m cap ∧ Hid (m = ps.length) ∧ wr.ownsRow w.heap.size 9 1 (.slice base m cap) m (strsL ps) ∧ Below w.heap.size w wr ∧ Hid (CutInv mark s k b q ps)
set_option maxRecDepth 200000 in
set_option maxHeartbeats 4000000 in
theorem cut_any (s : ByteArray) (mark : UInt8) (n : Int) (hn : Hid (n = (mark.toNat : Int))) (h34 : mark ≠ 34) (hn1 : n ≠ 34) (hn2 : n ≠ 92) (w : World) (hs : s.size ≤ 1099511627776) :
    Calls Tryd.prog 45 #[.string s, .int .u8 n] w fun e w' => ∃ v', e = .returned v' ∧ OwnS w w' v' ((cutA mark (ls s)).map tx) := by
  obtain ⟨i0, hi, hz0, hz1, hz2⟩ := info_parts infoS
  have own0 : w.ownsRow w.heap.size 9 1 (.slice none 0 0) 0 [] := World.ownsRow_nil _ _ _ _
  have bel0 := Below.refl w.heap.size w
  have hg := get_bt s
  go_enter Tryd.func45, Tryd.ntmps45
  go_wp2
  go_loopw [5, 6, 7, 8] (fun v i0 i1 i2 wr => CutRel mark s w v i0 i1 i2 wr) (fun _ _ _ i _ => s.size + 1 - (intOf i).toNat)
  case atStart => exact ⟨0, 0, 0, false, [], none, 0, by omega, by omega, by omega, by omega, rfl, rfl, rfl, rfl, Lib.hid rfl, own0, bel0, Lib.hid (CutInv.zero _ _)⟩
  case round =>
    clear own0 bel0
    obtain ⟨k, b, m, q, ps, base, cap, hk, hbk, hbs, hm, rfl, rfl, rfl, rfl, HM, own, bel, INV⟩ := hrel
    have hN := bel.size
    by_cases hlt : k < s.size
    · have l1 : (k : Int) < (s.size : Int) := by omega
      by_cases q34 : bt s k = 34
      · have I2 := Lib.hid (INV.out.quote hlt hbk q34)
        have g34 : (bt s k == 34) = true := by rw [q34]; rfl
        have g92 : (bt s k == 92) = false := by rw [q34]; rfl
        clear q34 INV
        cases q with
        | true =>
          go_wp2
          go_roundw
          case rel => exact ⟨k + 1, b, m, false, ps, base, cap, by omega, by omega, by omega, by omega, rfl, rfl, by go_num, rfl, HM, own, bel, I2⟩
          case measure => simp [intOf]; omega
        | false =>
          go_wp2
          go_roundw
          case rel => exact ⟨k + 1, b, m, true, ps, base, cap, by omega, by omega, by omega, by omega, rfl, rfl, by go_num, rfl, HM, own, bel, I2⟩
          case measure => simp [intOf]; omega
      have g34 : (bt s k == 34) = false := beq_eq_false_iff_ne.2 q34
      cases q with
      | true =>
        by_cases q92 : bt s k = 92
        · have I2 := Lib.hid (INV.out.esc hlt hbk q92)
          have g92 : (bt s k == 92) = true := by rw [q92]; rfl
          clear q92 q34 INV
          go_wp2
          go_roundw
          case rel => exact ⟨k + 2, b, m, true, ps, base, cap, by omega, by omega, by omega, by omega, rfl, rfl, by go_num, rfl, HM, own, bel, I2⟩
          case measure => simp [intOf]; omega
        · have g92 : (bt s k == 92) = false := beq_eq_false_iff_ne.2 q92
          have I2 := Lib.hid (INV.out.else hlt hbk (fun x => q92 x.2) q34 (fun x => by cases x.2))
          clear q92 q34 INV
          cases hqn : (bt s k == n) with
          | true =>
            go_wp2
            go_roundw
            case rel => exact ⟨k + 1, b, m, true, ps, base, cap, by omega, by omega, by omega, by omega, rfl, rfl, by go_num, rfl, HM, own, bel, I2⟩
            case measure => simp [intOf]; omega
          | false =>
            go_wp2
            go_roundw
            case rel => exact ⟨k + 1, b, m, true, ps, base, cap, by omega, by omega, by omega, by omega, rfl, rfl, by go_num, rfl, HM, own, bel, I2⟩
            case measure => simp [intOf]; omega
      | false =>
        by_cases qn : bt s k = n
        · have I2 := Lib.hid (INV.out.next h34 hlt hbk (by rw [qn, hn.out]))
          have gn : (bt s k == n) = true := by rw [qn]; simp
          have ex : (s.extract b k).size ≤ 1099511627776 := by rw [ByteArray.size_extract]; omega
          have tr := trim_any (s.extract b k)
          have l2 : (b : Int) ≤ (k : Int) := by omega
          have l3 : (k : Int) ≤ (s.size : Int) := by omega
          obtain rfl : n = bt s k := qn.symm
          clear q34 INV gn
          have tr1 := fun w => tr w (by omega)
          clear tr
          generalize hT : tx (trimT (ls (s.extract b k))) = T at tr1
          have HT := Lib.hid hT
          clear hT
          go_wp2_with fail
          refine (tr1 _).mono ?_
          rintro e w2 ⟨rfl, G2⟩
          have own2 := owns_below own G2
          have bel2 := bel.trans (G2.mono hN)
          have hN2 := bel2.size
          clear own bel G2 tr1
          go_upto_region 14 with (at_builtin; refine wpList_append_own _ rfl _ _ 44 rfl w.heap.size 9 i0 (.string ⟨#[]⟩) 1 16 Tryd.underlying44 hi hz0 hz1 hz2 rfl (by decide) _ _ _ rfl (own2.alloc _) ⟨w2.heap.size, 0, none⟩ 1 1 [.string T] rfl ?c0 ?c1 ?c2 ?c3 ?c4 ?c5 ?_)
          case c0 => rfl
          case c1 => exact new_str w2 T
          case c2 => intro u hu; simp at hu; subst hu; rfl
          case c3 => unfold maxLen; omega
          case c4 => omega
          case c5 => simp; omega
          intro v' w4 own4 hgrow _
          have own5 : w4.ownsRow w.heap.size 9 1 v' (m + 1) (strsL (ps ++ [T])) := by
            rw [strsL_snoc]
            exact own4
          have bel5 := (bel2.alloc hN2 (.cells #[.string T] 9)).grown hgrow (by simp; omega) (fun j hj => (own2.lt j hj).1)
          clear own4 own2 hgrow bel2
          obtain ⟨b', c', rfl⟩ := own_shape own5
          rw [HT.out] at I2
          go_wp2
          go_roundw
          case rel => exact ⟨k + 1, k + 1, m + 1, false, ps ++ [T], b', c', by omega, by omega, by omega, by omega, by go_num, rfl, by go_num, rfl, Lib.hid (by rw [List.length_append, ← HM.out]; rfl), own5, bel5, I2⟩
          case measure => simp [intOf]; omega
        · have gn : (bt s k == n) = false := beq_eq_false_iff_ne.2 qn
          have I2 := Lib.hid (INV.out.else hlt hbk (fun x => by cases x.1) q34 (fun x => qn (by rw [x.1, hn.out])))
          clear qn q34 INV
          go_wp2
          go_roundw
          case rel => exact ⟨k + 1, b, m, false, ps, base, cap, by omega, by omega, by omega, by omega, rfl, rfl, by go_num, rfl, HM, own, bel, I2⟩
          case measure => simp [intOf]; omega
    · have l1 : ¬ (k : Int) < (s.size : Int) := by omega
      have E := Lib.hid (INV.out.end (by omega))
      clear INV
      have ex : (s.extract b s.size).size ≤ 1099511627776 := by rw [ByteArray.size_extract]; omega
      have tr1 := fun w => trim_any (s.extract b s.size) w (by omega)
      have l2 : (b : Int) ≤ (s.size : Int) := by omega
      generalize hT : tx (trimT (ls (s.extract b s.size))) = T at tr1
      rw [hT] at E
      clear hT
      go_wp2_with fail
      refine (tr1 _).mono ?_
      rintro e w2 ⟨rfl, G2⟩
      have own2 := owns_below own G2
      have bel2 := bel.trans (G2.mono hN)
      have hN2 := bel2.size
      clear own bel G2 tr1
      go_wp2_with (at_builtin; refine wpList_append_own _ rfl _ _ 44 rfl w.heap.size 9 i0 (.string ⟨#[]⟩) 1 16 Tryd.underlying44 hi hz0 hz1 hz2 rfl (by decide) _ _ _ rfl (own2.alloc _) ⟨w2.heap.size, 0, none⟩ 1 1 [.string T] rfl rfl (new_str w2 T) (by intro u hu; simp at hu; subst hu; rfl) (by unfold maxLen; omega) (by omega) (by simp; omega) ?_; intro v' w4 own4 hgrow hcb)
      have own5 : w4.ownsRow w.heap.size 9 1 v' (m + 1) (strsL (ps ++ [T])) := by
        rw [strsL_snoc]
        exact own4
      have bel5 := (bel2.alloc hN2 (.cells #[.string T] 9)).grown hgrow (by simp; omega) (fun j hj => (own2.lt j hj).1)
      clear own4 own2 hgrow bel2
      have hm2 : m + 1 = (ps ++ [T]).length := by rw [List.length_append, ← HM.out]; rfl
      rw [hm2] at own5
      go_ret
      exact ⟨_, rfl, by rw [E.out]; exact own5, bel5⟩
end Go.Proofs.YtdimjeajgmlfkaaDoor.Fi
