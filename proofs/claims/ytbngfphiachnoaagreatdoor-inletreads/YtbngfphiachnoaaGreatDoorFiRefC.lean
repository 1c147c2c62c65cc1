/-
  Contract of Cut of the document's answers.
-/
import Derived.Test.YtbngfphiachnoaaGreatDoorFiRefA
import Derived.Test.YtbngfphiachnoaaGreatDoorSet7
namespace Go.Proofs.YtbngfphiachnoaaGreatDoor.Fi
open Go.RowKit Go.PlainAid
open Hx
set_option linter.unusedVariables false
set_option maxRecDepth 20000
set_option linter.unusedSimpArgs false

/-- where the walk of Cut stands -/
structure RcInv (mark : UInt8) (s : ByteArray) (k : Nat) (q : Bool) (pt : List UInt8) (ps : List ByteArray) : Prop where
  inv : (cutA mark (ls s)).map tx = ps ++ (cutQ mark ((ls s).drop k) q pt).map tx
theorem RcInv.zero (mark : UInt8) (s : ByteArray) : RcInv mark s 0 false [] [] := ⟨by simp [cutA]⟩
section
variable {mark : UInt8} {s : ByteArray} {k : Nat} {q : Bool} {pt : List UInt8} {ps : List ByteArray} {c d : UInt8}
theorem RcInv.quote (h : RcInv mark s k q pt ps) (dc : (ls s).drop k = c :: (ls s).drop (k + 1)) (e : c = 34) : RcInv mark s (k + 1) (!q) (pt ++ [c]) ps := by
  subst e; exact ⟨by rw [h.inv, dc, cutQ_quote]⟩
theorem RcInv.esc (h : RcInv mark s k true pt ps) (dc : (ls s).drop k = c :: (ls s).drop (k + 1)) (dd : (ls s).drop (k + 1) = d :: (ls s).drop (k + 1 + 1)) (e : c = 92) : RcInv mark s (k + 2) true (pt ++ [c] ++ [d]) ps := by
  subst e; exact ⟨by rw [h.inv, dc, dd, cutQ_esc, List.append_assoc]; rfl⟩
theorem RcInv.last (h : RcInv mark s k true pt ps) (dc : (ls s).drop k = c :: (ls s).drop (k + 1)) (hk : s.size ≤ k + 1) (e : c = 92) : RcInv mark s (k + 1) true (pt ++ [c]) ps := by
  subst e
  have e1 : (ls s).drop (k + 1) = [] := List.drop_of_length_le (by rw [ls_len]; exact hk)
  exact ⟨by rw [h.inv, dc, e1, cutQ_last, cutQ_nil]⟩
theorem RcInv.next (h : RcInv mark s k false pt ps) (hm : mark ≠ 34) (dc : (ls s).drop k = c :: (ls s).drop (k + 1)) (e : c = mark) : RcInv mark s (k + 1) false [] (ps ++ [tx (trimT pt)]) := by
  subst e; exact ⟨by rw [h.inv, dc, cutQ_mark _ hm]; simp⟩
theorem RcInv.else (h : RcInv mark s k q pt ps) (dc : (ls s).drop k = c :: (ls s).drop (k + 1)) (h1 : ¬ (q = true ∧ c = 92)) (h2 : c ≠ 34) (h3 : ¬ (c = mark ∧ q = false)) : RcInv mark s (k + 1) q (pt ++ [c]) ps :=
  ⟨by rw [h.inv, dc, cutQ_else mark c q _ _ h1 h2 h3]⟩
theorem RcInv.end (h : RcInv mark s k q pt ps) (hk : s.size ≤ k) : (cutA mark (ls s)).map tx = ps ++ [tx (trimT pt)] := by
  rw [h.inv, List.drop_of_length_le (by rw [ls_len]; exact hk), cutQ_nil]; rfl
end
def RcRel (mark : UInt8) (s : ByteArray) (w : World) (o p i0 i1 : Value) (wr : World) : Prop :=
  ∃ (k n m g h c1 c2 : Nat) (q : Bool) (pt : List UInt8) (ps : List ByteArray), k ≤ s.size ∧ n ≤ k ∧ m ≤ k ∧ g ≠ h ∧ o = .slice (some ⟨g, 0, none⟩) n c1 ∧ p = .slice (some ⟨h, 0, none⟩) m c2 ∧ i0 = .bool q ∧ i1 = .int .i64 k ∧ Hid (n = ps.length) ∧ Hid (m = pt.length) ∧ wr.ownsRow w.heap.size 9 1 (.slice (some ⟨g, 0, none⟩) n c1) n (strsL ps) ∧ wr.ownsRow w.heap.size 5 1 (.slice (some ⟨h, 0, none⟩) m c2) m (bytesV pt) ∧ Below w.heap.size w wr ∧ Hid (RcInv mark s k q pt ps)
set_option maxRecDepth 200000 in
set_option maxHeartbeats 8000000 in
theorem refCut_any (s : ByteArray) (mark : UInt8) (N : Int) (hn : Hid (N = (mark.toNat : Int))) (h34 : mark ≠ 34) (hn1 : N ≠ 34) (hn2 : N ≠ 92) (w : World) (hs : s.size ≤ 1099511627776) :
    Calls Tryz.prog 85 #[.string s, .int .u8 N] w fun e w' => ∃ v', e = .returned v' ∧ OwnS w w' v' ((cutA mark (ls s)).map tx) := by
  obtain ⟨iS, hiS, hS0, hS1, hS2⟩ := info_parts infoS
  obtain ⟨iB, hiB, hB0, hB1, hB2⟩ := info_parts info5
  have hg := get_bt s
  have F1 : Below w.heap.size w (w.alloc (.cells #[] 9)) := (Below.refl _ _).alloc (Nat.le_refl _) _
  have O1 : (w.alloc (.cells #[] 9)).ownsRow w.heap.size 9 1 (.slice (some ⟨w.heap.size, 0, none⟩) 0 0) 0 [] := World.ownsRow_made w #[] 0 (Nat.le_refl _) (Nat.zero_le _) rfl
  have P1 : ((w.alloc (.cells #[] 9)).alloc (.cells #[] 5)).ownsRow w.heap.size 5 1 (.slice (some ⟨w.heap.size + 1, 0, none⟩) 0 0) 0 [] := by
    have := World.ownsRow_made (size := 1) (e := 5) (base := w.heap.size) (w.alloc (.cells #[] 9)) #[] 0 (by simp) (Nat.zero_le _) rfl
    rw [show (w.alloc (.cells #[] 9)).heap.size = w.heap.size + 1 by simp] at this
    exact this
  have O2 := O1.alloc (.cells #[] 5)
  have F2 := F1.alloc (by simp) (.cells #[] 5)
  go_enter Tryz.func85, Tryz.ntmps85
  go_wp2
  go_loopw [5, 6, 7, 8] (fun o p i0 i1 wr => RcRel mark s w o p i0 i1 wr) (fun _ _ _ i _ => s.size - (intOf i).toNat)
  case atStart => exact ⟨0, 0, 0, _, _, 0, 0, false, [], [], Nat.zero_le _, Nat.le_refl _, Nat.le_refl _, by omega, rfl, by simp, rfl, rfl, Lib.hid rfl, Lib.hid rfl, O2, P1, F2, Lib.hid (RcInv.zero _ _)⟩
  case round =>
    clear F1 O1 P1 O2 F2
    obtain ⟨k, n, m, g, h, c1, c2, q, pt, ps, hk, hnk, hmk, hgh, rfl, rfl, rfl, rfl, HN, HM, own, pown, bel, INV⟩ := hrel
    have hN := bel.size
    have GH := Lib.hid hgh
    clear hgh
    by_cases hlt : k < s.size
    · have l1 : (k : Int) < (s.size : Int) := by omega
      obtain ⟨x, _, ex, _, _, dx⟩ := get_ls hlt
      by_cases q34 : bt s k = 34
      · have I2 := Lib.hid (INV.out.quote dx ((byte_eq x 34).1 (by rw [← ex, q34]; rfl)))
        have g34 : (bt s k == 34) = true := by rw [q34]; rfl
        have EX := Lib.hid ex
        clear q34 INV dx ex
        cases q with
        | true =>
          go_wp2_with (at_builtin; refine wpList_append_lies _ rfl _ _ 55 rfl w.heap.size 5 iB (.int .u8 0) 1 1 Tryz.underlying55 hiB hB0 hB1 hB2 rfl (by decide) _ _ _ rfl (pown.alloc _) ⟨wr.heap.size, 0, none⟩ 1 1 [_] rfl rfl (new_byte wr _) (by intro u hu; simp at hu; subst hu; rfl) (by decide) (by unfold maxLen; omega) (by omega) (by simp; omega) (wr.heap.size + 1) (by simp) ?_; intro h2 c3 w4 own4 hgrow hwh hlt4)
          have pown5 : w4.ownsRow w.heap.size 5 1 (.slice (some ⟨h2, 0, none⟩) (m + 1) c3) (m + 1) (bytesV (pt ++ [x])) := by
            rw [← bytesV_snoc, ← EX.out]
            exact own4
          have bel5 := (bel.alloc hN (.cells #[.int .u8 (bt s k)] 5)).grown hgrow (by simp; omega) (fun j hj => (pown.lt j hj).1)
          have own5 := (own.alloc (.cells #[.int .u8 (bt s k)] 5)).kept hgrow (.inr (fun e => GH.out (Option.some.inj e)))
          have GH2 : Hid (g ≠ h2) := Lib.hid (by
            rcases hwh with e | e
            · have e' : h = h2 := Option.some.inj e
              rw [← e']; exact GH.out
            · have := (own.lt g rfl).2
              omega)
          clear own4 own pown hgrow hwh hlt4 bel hN GH
          have hN := bel5.size
          go_roundw
          case rel => exact ⟨k + 1, n, m + 1, g, h2, c1, c3, false, pt ++ [x], ps, by omega, by omega, by omega, GH2.out, rfl, rfl, rfl, by go_num, HN, Lib.hid (by simp only [List.length_append, ← HM.out, List.length_singleton]), own5, pown5, bel5, I2⟩
          case measure => simp [intOf]; omega
        | false =>
          go_wp2_with (at_builtin; refine wpList_append_lies _ rfl _ _ 55 rfl w.heap.size 5 iB (.int .u8 0) 1 1 Tryz.underlying55 hiB hB0 hB1 hB2 rfl (by decide) _ _ _ rfl (pown.alloc _) ⟨wr.heap.size, 0, none⟩ 1 1 [_] rfl rfl (new_byte wr _) (by intro u hu; simp at hu; subst hu; rfl) (by decide) (by unfold maxLen; omega) (by omega) (by simp; omega) (wr.heap.size + 1) (by simp) ?_; intro h2 c3 w4 own4 hgrow hwh hlt4)
          have pown5 : w4.ownsRow w.heap.size 5 1 (.slice (some ⟨h2, 0, none⟩) (m + 1) c3) (m + 1) (bytesV (pt ++ [x])) := by
            rw [← bytesV_snoc, ← EX.out]
            exact own4
          have bel5 := (bel.alloc hN (.cells #[.int .u8 (bt s k)] 5)).grown hgrow (by simp; omega) (fun j hj => (pown.lt j hj).1)
          have own5 := (own.alloc (.cells #[.int .u8 (bt s k)] 5)).kept hgrow (.inr (fun e => GH.out (Option.some.inj e)))
          have GH2 : Hid (g ≠ h2) := Lib.hid (by
            rcases hwh with e | e
            · have e' : h = h2 := Option.some.inj e
              rw [← e']; exact GH.out
            · have := (own.lt g rfl).2
              omega)
          clear own4 own pown hgrow hwh hlt4 bel hN GH
          have hN := bel5.size
          go_roundw
          case rel => exact ⟨k + 1, n, m + 1, g, h2, c1, c3, true, pt ++ [x], ps, by omega, by omega, by omega, GH2.out, rfl, rfl, rfl, by go_num, HN, Lib.hid (by simp only [List.length_append, ← HM.out, List.length_singleton]), own5, pown5, bel5, I2⟩
          case measure => simp [intOf]; omega
      have g34 : (bt s k == 34) = false := beq_eq_false_iff_ne.2 q34
      have x34 : x ≠ 34 := fun e => q34 (by rw [ex, e]; rfl)
      clear q34
      by_cases q92 : q = true ∧ bt s k = 92
      · obtain ⟨rfl, q92⟩ := q92
        have g92 : (bt s k == 92) = true := by rw [q92]; rfl
        have x92 : x = 92 := (byte_eq x 92).1 (by rw [← ex, q92]; rfl)
        by_cases hend : k + 1 < s.size
        · obtain ⟨y, _, ey, _, _, dy⟩ := get_ls hend
          have I2 := Lib.hid (INV.out.esc dx dy x92)
          have l2 : (k : Int) + 1 < (s.size : Int) := by omega
          have EX := Lib.hid ex
          have EY := Lib.hid ey
          clear q92 INV dx ex x34 x92 dy ey
          go_upto_region 11 with (at_builtin; refine wpList_append_lies _ rfl _ _ 55 rfl w.heap.size 5 iB (.int .u8 0) 1 1 Tryz.underlying55 hiB hB0 hB1 hB2 rfl (by decide) _ _ _ rfl (pown.alloc _) ⟨wr.heap.size, 0, none⟩ 1 1 [_] rfl rfl (new_byte wr _) (by intro u hu; simp at hu; subst hu; rfl) (by decide) (by unfold maxLen; omega) (by omega) (by simp; omega) (wr.heap.size + 1) (by simp) ?_)
          intro h2 c3 w4 own4 hgrow hwh hlt4
          have pown5 : w4.ownsRow w.heap.size 5 1 (.slice (some ⟨h2, 0, none⟩) (m + 1) c3) (m + 1) (bytesV (pt ++ [x])) := by
            rw [← bytesV_snoc, ← EX.out]
            exact own4
          have bel5 := (bel.alloc hN (.cells #[.int .u8 (bt s k)] 5)).grown hgrow (by simp; omega) (fun j hj => (pown.lt j hj).1)
          have own5 := (own.alloc (.cells #[.int .u8 (bt s k)] 5)).kept hgrow (.inr (fun e => GH.out (Option.some.inj e)))
          have GH2 : Hid (g ≠ h2) := Lib.hid (by
            rcases hwh with e | e
            · have e' : h = h2 := Option.some.inj e
              rw [← e']; exact GH.out
            · have := (own.lt g rfl).2
              omega)
          clear own4 own pown hgrow hwh hlt4 bel hN GH
          have hN := bel5.size
          have own := own5
          have pown := pown5
          have bel := bel5
          have GH := GH2
          clear own5 pown5 bel5 GH2
          go_wp2_with (at_builtin; refine wpList_append_lies _ rfl _ _ 55 rfl w.heap.size 5 iB (.int .u8 0) 1 1 Tryz.underlying55 hiB hB0 hB1 hB2 rfl (by decide) _ _ _ rfl (pown.alloc _) ⟨w4.heap.size, 0, none⟩ 1 1 [_] rfl rfl (new_byte w4 _) (by intro u hu; simp at hu; subst hu; rfl) (by decide) (by unfold maxLen; omega) (by omega) (by simp; omega) (w4.heap.size + 1) (by simp) ?_; intro h3 c4 w5 own6 hgrow hwh hlt6)
          have pown5 : w5.ownsRow w.heap.size 5 1 (.slice (some ⟨h3, 0, none⟩) (m + 1 + 1) c4) (m + 1 + 1) (bytesV (pt ++ [x] ++ [y])) := by
            rw [← bytesV_snoc, ← EY.out]
            exact own6
          have bel5 := (bel.alloc hN (.cells #[.int .u8 (bt s (k + 1))] 5)).grown hgrow (by simp; omega) (fun j hj => (pown.lt j hj).1)
          have own5 := (own.alloc (.cells #[.int .u8 (bt s (k + 1))] 5)).kept hgrow (.inr (fun e => GH.out (Option.some.inj e)))
          have GH2 : Hid (g ≠ h3) := Lib.hid (by
            rcases hwh with e | e
            · have e' : h2 = h3 := Option.some.inj e
              rw [← e']; exact GH.out
            · have := (own.lt g rfl).2
              omega)
          clear own6 own pown hgrow hwh hlt6 bel hN GH
          have hN := bel5.size
          go_roundw
          case rel => exact ⟨k + 2, n, m + 1 + 1, g, h3, c1, c4, true, pt ++ [x] ++ [y], ps, by omega, by omega, by omega, GH2.out, rfl, rfl, rfl, by go_num, HN, Lib.hid (by simp only [List.length_append, ← HM.out, List.length_singleton]), own5, pown5, bel5, I2⟩
          case measure => simp [intOf]; omega
        · have I2 := Lib.hid (INV.out.last dx (by omega) x92)
          have l2 : ¬ (k : Int) + 1 < (s.size : Int) := by omega
          have gn : (bt s k == N) = false := by rw [beq_eq_false_iff_ne, q92]; exact fun e => hn2 e.symm
          have EX := Lib.hid ex
          clear q92 INV dx ex x34 x92
          go_wp2_with (at_builtin; refine wpList_append_lies _ rfl _ _ 55 rfl w.heap.size 5 iB (.int .u8 0) 1 1 Tryz.underlying55 hiB hB0 hB1 hB2 rfl (by decide) _ _ _ rfl (pown.alloc _) ⟨wr.heap.size, 0, none⟩ 1 1 [_] rfl rfl (new_byte wr _) (by intro u hu; simp at hu; subst hu; rfl) (by decide) (by unfold maxLen; omega) (by omega) (by simp; omega) (wr.heap.size + 1) (by simp) ?_; intro h2 c3 w4 own4 hgrow hwh hlt4)
          have pown5 : w4.ownsRow w.heap.size 5 1 (.slice (some ⟨h2, 0, none⟩) (m + 1) c3) (m + 1) (bytesV (pt ++ [x])) := by
            rw [← bytesV_snoc, ← EX.out]
            exact own4
          have bel5 := (bel.alloc hN (.cells #[.int .u8 (bt s k)] 5)).grown hgrow (by simp; omega) (fun j hj => (pown.lt j hj).1)
          have own5 := (own.alloc (.cells #[.int .u8 (bt s k)] 5)).kept hgrow (.inr (fun e => GH.out (Option.some.inj e)))
          have GH2 : Hid (g ≠ h2) := Lib.hid (by
            rcases hwh with e | e
            · have e' : h = h2 := Option.some.inj e
              rw [← e']; exact GH.out
            · have := (own.lt g rfl).2
              omega)
          clear own4 own pown hgrow hwh hlt4 bel hN GH
          have hN := bel5.size
          go_roundw
          case rel => exact ⟨k + 1, n, m + 1, g, h2, c1, c3, true, pt ++ [x], ps, by omega, by omega, by omega, GH2.out, rfl, rfl, rfl, by go_num, HN, Lib.hid (by simp only [List.length_append, ← HM.out, List.length_singleton]), own5, pown5, bel5, I2⟩
          case measure => simp [intOf]; omega
      by_cases qn : q = false ∧ bt s k = N
      · obtain ⟨rfl, qn⟩ := qn
        have I2 := Lib.hid (INV.out.next h34 dx ((byte_eq x mark).1 (by rw [← ex, qn, hn.out])))
        have gn : (bt s k == N) = true := by rw [qn]; simp
        have g92 : (bt s k == 92) = false := by rw [beq_eq_false_iff_ne, qn]; exact hn2
        have tr : ∀ w, Calls Tryz.prog 82 #[.string (tx pt)] w fun e w' => e = .returned (.string (tx (trimT pt))) ∧ w = w' := fun w => by
          have := refTrim_any (tx pt) w (by rw [tx_size, ← HM.out]; omega)
          rw [ls_tx] at this
          exact this
        have CV := conv_row (n := m) pown
        generalize hT : tx (trimT pt) = T at tr I2
        generalize hP : (⟨pt.toArray⟩ : ByteArray) = PT at CV
        rw [show tx pt = PT from hP] at tr
        clear qn INV dx ex x34 q92 hT hP
        go_wp2_with fail
        refine (tr _).mono ?_
        rintro e w2 ⟨rfl, rfl⟩
        clear tr CV
        go_wp2_with (at_builtin; refine wpList_append_lies _ rfl _ _ 22 rfl w.heap.size 9 iS (.string ⟨#[]⟩) 1 16 Tryz.underlying22 hiS hS0 hS1 hS2 rfl (by decide) _ _ _ rfl (own.alloc _) ⟨wr.heap.size, 0, none⟩ 1 1 [.string T] rfl rfl (new_str wr T) (by intro u hu; simp at hu; subst hu; rfl) (by decide) (by unfold maxLen; omega) (by omega) (by simp; omega) (wr.heap.size + 1) (by simp) ?_; intro g2 c3 w4 own4 hgrow hwh hlt4)
        have own5 : w4.ownsRow w.heap.size 9 1 (.slice (some ⟨g2, 0, none⟩) (n + 1) c3) (n + 1) (strsL (ps ++ [T])) := by
          rw [strsL_snoc]
          exact own4
        have bel5 := (bel.alloc hN (.cells #[.string T] 9)).grown hgrow (by simp; omega) (fun j hj => (own.lt j hj).1)
        have hN5 := bel5.size
        have own7 := own5.alloc (.cells #[] 5)
        have P7 : (w4.alloc (.cells #[] 5)).ownsRow w.heap.size 5 1 (.slice (some ⟨w4.heap.size, 0, none⟩) 0 0) 0 [] := World.ownsRow_made w4 #[] 0 hN5 (Nat.zero_le _) rfl
        have bel7 := bel5.alloc hN5 (.cells #[] 5)
        clear own4 own5 own pown hgrow hwh bel hN bel5
        go_roundw
        case rel => exact ⟨k + 1, n + 1, 0, g2, _, c3, 0, false, [], ps ++ [T], by omega, by omega, by omega, by omega, rfl, rfl, rfl, by go_num, Lib.hid (by rw [List.length_append, ← HN.out]; rfl), Lib.hid rfl, own7, P7, bel7, I2⟩
        case measure => simp [intOf]; omega
      have I2 := Lib.hid (INV.out.else dx (fun e => q92 ⟨e.1, by rw [ex, e.2]; rfl⟩) x34 (fun e => qn ⟨e.2, by rw [ex, e.1, hn.out]⟩))
      have EX := Lib.hid ex
      cases q with
      | true =>
        have g92 : (bt s k == 92) = false := beq_eq_false_iff_ne.2 (fun e => q92 ⟨rfl, e⟩)
        clear q92 qn INV dx ex x34
        cases hqn : (bt s k == N) with
        | true =>
          go_wp2_with (at_builtin; refine wpList_append_lies _ rfl _ _ 55 rfl w.heap.size 5 iB (.int .u8 0) 1 1 Tryz.underlying55 hiB hB0 hB1 hB2 rfl (by decide) _ _ _ rfl (pown.alloc _) ⟨wr.heap.size, 0, none⟩ 1 1 [_] rfl rfl (new_byte wr _) (by intro u hu; simp at hu; subst hu; rfl) (by decide) (by unfold maxLen; omega) (by omega) (by simp; omega) (wr.heap.size + 1) (by simp) ?_; intro h2 c3 w4 own4 hgrow hwh hlt4)
          have pown5 : w4.ownsRow w.heap.size 5 1 (.slice (some ⟨h2, 0, none⟩) (m + 1) c3) (m + 1) (bytesV (pt ++ [x])) := by
            rw [← bytesV_snoc, ← EX.out]
            exact own4
          have bel5 := (bel.alloc hN (.cells #[.int .u8 (bt s k)] 5)).grown hgrow (by simp; omega) (fun j hj => (pown.lt j hj).1)
          have own5 := (own.alloc (.cells #[.int .u8 (bt s k)] 5)).kept hgrow (.inr (fun e => GH.out (Option.some.inj e)))
          have GH2 : Hid (g ≠ h2) := Lib.hid (by
            rcases hwh with e | e
            · have e' : h = h2 := Option.some.inj e
              rw [← e']; exact GH.out
            · have := (own.lt g rfl).2
              omega)
          clear own4 own pown hgrow hwh hlt4 bel hN GH
          have hN := bel5.size
          go_roundw
          case rel => exact ⟨k + 1, n, m + 1, g, h2, c1, c3, true, pt ++ [x], ps, by omega, by omega, by omega, GH2.out, rfl, rfl, rfl, by go_num, HN, Lib.hid (by simp only [List.length_append, ← HM.out, List.length_singleton]), own5, pown5, bel5, I2⟩
          case measure => simp [intOf]; omega
        | false =>
          go_wp2_with (at_builtin; refine wpList_append_lies _ rfl _ _ 55 rfl w.heap.size 5 iB (.int .u8 0) 1 1 Tryz.underlying55 hiB hB0 hB1 hB2 rfl (by decide) _ _ _ rfl (pown.alloc _) ⟨wr.heap.size, 0, none⟩ 1 1 [_] rfl rfl (new_byte wr _) (by intro u hu; simp at hu; subst hu; rfl) (by decide) (by unfold maxLen; omega) (by omega) (by simp; omega) (wr.heap.size + 1) (by simp) ?_; intro h2 c3 w4 own4 hgrow hwh hlt4)
          have pown5 : w4.ownsRow w.heap.size 5 1 (.slice (some ⟨h2, 0, none⟩) (m + 1) c3) (m + 1) (bytesV (pt ++ [x])) := by
            rw [← bytesV_snoc, ← EX.out]
            exact own4
          have bel5 := (bel.alloc hN (.cells #[.int .u8 (bt s k)] 5)).grown hgrow (by simp; omega) (fun j hj => (pown.lt j hj).1)
          have own5 := (own.alloc (.cells #[.int .u8 (bt s k)] 5)).kept hgrow (.inr (fun e => GH.out (Option.some.inj e)))
          have GH2 : Hid (g ≠ h2) := Lib.hid (by
            rcases hwh with e | e
            · have e' : h = h2 := Option.some.inj e
              rw [← e']; exact GH.out
            · have := (own.lt g rfl).2
              omega)
          clear own4 own pown hgrow hwh hlt4 bel hN GH
          have hN := bel5.size
          go_roundw
          case rel => exact ⟨k + 1, n, m + 1, g, h2, c1, c3, true, pt ++ [x], ps, by omega, by omega, by omega, GH2.out, rfl, rfl, rfl, by go_num, HN, Lib.hid (by simp only [List.length_append, ← HM.out, List.length_singleton]), own5, pown5, bel5, I2⟩
          case measure => simp [intOf]; omega
      | false =>
        have gn : (bt s k == N) = false := beq_eq_false_iff_ne.2 (fun e => qn ⟨rfl, e⟩)
        clear q92 qn INV dx ex x34
        cases hq9 : (bt s k == 92) with
        | true =>
          go_wp2_with (at_builtin; refine wpList_append_lies _ rfl _ _ 55 rfl w.heap.size 5 iB (.int .u8 0) 1 1 Tryz.underlying55 hiB hB0 hB1 hB2 rfl (by decide) _ _ _ rfl (pown.alloc _) ⟨wr.heap.size, 0, none⟩ 1 1 [_] rfl rfl (new_byte wr _) (by intro u hu; simp at hu; subst hu; rfl) (by decide) (by unfold maxLen; omega) (by omega) (by simp; omega) (wr.heap.size + 1) (by simp) ?_; intro h2 c3 w4 own4 hgrow hwh hlt4)
          have pown5 : w4.ownsRow w.heap.size 5 1 (.slice (some ⟨h2, 0, none⟩) (m + 1) c3) (m + 1) (bytesV (pt ++ [x])) := by
            rw [← bytesV_snoc, ← EX.out]
            exact own4
          have bel5 := (bel.alloc hN (.cells #[.int .u8 (bt s k)] 5)).grown hgrow (by simp; omega) (fun j hj => (pown.lt j hj).1)
          have own5 := (own.alloc (.cells #[.int .u8 (bt s k)] 5)).kept hgrow (.inr (fun e => GH.out (Option.some.inj e)))
          have GH2 : Hid (g ≠ h2) := Lib.hid (by
            rcases hwh with e | e
            · have e' : h = h2 := Option.some.inj e
              rw [← e']; exact GH.out
            · have := (own.lt g rfl).2
              omega)
          clear own4 own pown hgrow hwh hlt4 bel hN GH
          have hN := bel5.size
          go_roundw
          case rel => exact ⟨k + 1, n, m + 1, g, h2, c1, c3, false, pt ++ [x], ps, by omega, by omega, by omega, GH2.out, rfl, rfl, rfl, by go_num, HN, Lib.hid (by simp only [List.length_append, ← HM.out, List.length_singleton]), own5, pown5, bel5, I2⟩
          case measure => simp [intOf]; omega
        | false =>
          go_wp2_with (at_builtin; refine wpList_append_lies _ rfl _ _ 55 rfl w.heap.size 5 iB (.int .u8 0) 1 1 Tryz.underlying55 hiB hB0 hB1 hB2 rfl (by decide) _ _ _ rfl (pown.alloc _) ⟨wr.heap.size, 0, none⟩ 1 1 [_] rfl rfl (new_byte wr _) (by intro u hu; simp at hu; subst hu; rfl) (by decide) (by unfold maxLen; omega) (by omega) (by simp; omega) (wr.heap.size + 1) (by simp) ?_; intro h2 c3 w4 own4 hgrow hwh hlt4)
          have pown5 : w4.ownsRow w.heap.size 5 1 (.slice (some ⟨h2, 0, none⟩) (m + 1) c3) (m + 1) (bytesV (pt ++ [x])) := by
            rw [← bytesV_snoc, ← EX.out]
            exact own4
          have bel5 := (bel.alloc hN (.cells #[.int .u8 (bt s k)] 5)).grown hgrow (by simp; omega) (fun j hj => (pown.lt j hj).1)
          have own5 := (own.alloc (.cells #[.int .u8 (bt s k)] 5)).kept hgrow (.inr (fun e => GH.out (Option.some.inj e)))
          have GH2 : Hid (g ≠ h2) := Lib.hid (by
            rcases hwh with e | e
            · have e' : h = h2 := Option.some.inj e
              rw [← e']; exact GH.out
            · have := (own.lt g rfl).2
              omega)
          clear own4 own pown hgrow hwh hlt4 bel hN GH
          have hN := bel5.size
          go_roundw
          case rel => exact ⟨k + 1, n, m + 1, g, h2, c1, c3, false, pt ++ [x], ps, by omega, by omega, by omega, GH2.out, rfl, rfl, rfl, by go_num, HN, Lib.hid (by simp only [List.length_append, ← HM.out, List.length_singleton]), own5, pown5, bel5, I2⟩
          case measure => simp [intOf]; omega
    · have l1 : ¬ (k : Int) < (s.size : Int) := by omega
      have E := Lib.hid (INV.out.end (by omega))
      have tr : ∀ w, Calls Tryz.prog 82 #[.string (tx pt)] w fun e w' => e = .returned (.string (tx (trimT pt))) ∧ w = w' := fun w => by
        have := refTrim_any (tx pt) w (by rw [tx_size, ← HM.out]; omega)
        rw [ls_tx] at this
        exact this
      have CV := conv_row (n := m) pown
      generalize hT : tx (trimT pt) = T at tr E
      generalize hP : (⟨pt.toArray⟩ : ByteArray) = PT at CV
      rw [show tx pt = PT from hP] at tr
      clear INV hT hP
      go_wp2_with fail
      refine (tr _).mono ?_
      rintro e w2 ⟨rfl, rfl⟩
      clear tr CV
      go_wp2_with (at_builtin; refine wpList_append_own _ rfl _ _ 22 rfl w.heap.size 9 iS (.string ⟨#[]⟩) 1 16 Tryz.underlying22 hiS hS0 hS1 hS2 rfl (by decide) _ _ _ rfl (own.alloc _) ⟨wr.heap.size, 0, none⟩ 1 1 [.string T] rfl rfl (new_str wr T) (by intro u hu; simp at hu; subst hu; rfl) (by unfold maxLen; omega) (by omega) (by simp; omega) ?_; intro v' w4 own4 hgrow hcb)
      have own5 : w4.ownsRow w.heap.size 9 1 v' (n + 1) (strsL (ps ++ [T])) := by
        rw [strsL_snoc]
        exact own4
      have bel5 := (bel.alloc hN (.cells #[.string T] 9)).grown hgrow (by simp; omega) (fun j hj => (own.lt j hj).1)
      clear own4 own pown hgrow bel
      have hm2 : n + 1 = (ps ++ [T]).length := by rw [List.length_append, ← HN.out]; rfl
      rw [hm2] at own5
      go_ret
      exact ⟨_, rfl, by rw [E.out]; exact own5, bel5⟩
end Go.Proofs.YtbngfphiachnoaaGreatDoor.Fi
