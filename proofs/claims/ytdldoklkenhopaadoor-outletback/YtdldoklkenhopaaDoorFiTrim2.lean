/-
  Contracts of the library's strings.Trim at a blank and a tab, of trim of package field, and of Trim of the document's answers: the end of it.
-/
import Derived.Test.YtdldoklkenhopaaDoorFiTrim
namespace Go.Proofs.YtdldoklkenhopaaDoor.Fi
open Go.RowKit Go.PlainAid
open Hx
set_option linter.unusedVariables false
set_option maxRecDepth 20000
set_option linter.unusedSimpArgs false

theorem trimRight_any {w : World} {B : Nat} (h : At w B 88 setW) (s : ByteArray) (hs : s.size ≤ 4611686018427387904) :
    Calls Tryd.prog 69 #[.string s, .pointer (some ⟨B, 0, none⟩)] w fun e w' => e = .returned (.string (tx (Lib.trimRightS (ls s) [32, 9]))) ∧ w = w' := by
  have H := Lib.hid h
  clear h
  go_enter Tryd.func69, Tryd.ntmps69
  go_wp2
  go_loop [0] (fun v => ∃ (k : Nat) (t : ByteArray), k ≤ s.size ∧ v = .string t ∧ ls t = (ls s).take k ∧ ∀ (j : Nat) b, k ≤ j → (ls s)[j]? = some b → ([32, 9] : List UInt8).contains b = true) (fun v => Lib.strSize v)
  case atStart => exact ⟨s.size, s, Nat.le_refl _, rfl, by rw [List.take_of_length_le (by rw [ls_len]; exact Nat.le_refl _)], fun j b hj hb => by
    rw [List.getElem?_eq_none (by rw [ls_len]; exact hj)] at hb; cases hb⟩
  case round =>
    obtain ⟨k, t, hk, rfl, ht, hc⟩ := hrel
    have hz : t.size = k := by
      have := congrArg List.length ht
      rw [ls_len, List.length_take, ls_len] at this
      omega
    have HT := Lib.hid ht
    have HC := Lib.hid hc
    clear ht hc
    have HZ := Lib.hid hz
    clear hz
    have hg := get_bt t
    have hts : t.size ≤ 4611686018427387904 := by have := HZ.out; omega
    by_cases h0 : 0 < t.size
    · obtain ⟨n, hn⟩ : ∃ n, t.size = n + 1 := ⟨t.size - 1, by omega⟩
      obtain ⟨c, gc, ec, _, tc, _⟩ := get_ls (s := t) (k := n) (by omega)
      have gs : (ls s)[n]? = some c := by
        have := HT.out
        rw [this, List.getElem?_take] at gc
        rw [if_pos (by have := HZ.out; omega)] at gc
        exact gc
      have b0 := bt_nonneg t n
      have b1 := bt_le t n
      have i1 : (t.size : Int) - 1 = (n : Int) := by omega
      have i2 : (n : Int) < (t.size : Int) := by omega
      have i3 : (n : Int) ≤ (t.size : Int) := by omega
      have i4 : (0 : Int) ≤ (n : Int) := Int.natCast_nonneg _
      have hn1 : n < t.size := by omega
      have HN := Lib.hid hn
      clear hn
      have l0 : (0 : Int) < (t.size : Int) := by omega
      cases hw : wsN (bt t n) with
      | true =>
        have HW := Lib.hid hw
        have e1 : ls (t.extract 0 n) = (ls s).take n := by
          rw [ls_extract, HT.out, List.drop_zero, List.take_take, Nat.sub_zero, Nat.min_eq_left (by have := HZ.out; have := HN.out; omega)]
        have HE := Lib.hid e1
        have GS := Lib.hid gs
        have EC := Lib.hid ec
        clear e1 hw gs ec gc tc
        go_wp2_with fail
        refine (contains_any H.out _ b0 b1).mono ?_
        rintro e w' ⟨rfl, rfl⟩
        rw [HW.out]
        go_wp2
        go_round
        case rel =>
          refine ⟨n, _, by have := HZ.out; omega, rfl, HE.out, fun j b hj hb => ?_⟩
          by_cases e : j = n
          · subst e
            rw [GS.out] at hb
            rw [← Option.some.inj hb, ws_is, ← EC.out]
            exact HW.out
          · exact HC.out j b (by have := HZ.out; have := HN.out; omega) hb
        case measure => simp [Lib.strSize, ByteArray.size_extract]; omega
      | false =>
        have HW := Lib.hid hw
        have GS := Lib.hid gs
        have EC := Lib.hid ec
        clear hw gs ec gc tc
        go_wp2_with fail
        refine (contains_any H.out _ b0 b1).mono ?_
        rintro e w' ⟨rfl, rfl⟩
        rw [HW.out]
        go_wp2
        go_ret
        refine ⟨?_, rfl⟩
        rw [Lib.trimRightS_take (ls s) [32, 9] k (by rw [ls_len]; exact hk) HC.out (fun b _ hb => by
          rw [show k - 1 = n by have := HZ.out; have := HN.out; omega, GS.out] at hb
          rw [← Option.some.inj hb, ws_is, ← EC.out]
          exact HW.out), ← HT.out, tx_ls]
        rfl
    · have l0 : ¬ (0 : Int) < (t.size : Int) := by omega
      go_wp2
      go_ret
      refine ⟨?_, rfl⟩
      have hk2 : k = 0 := by have := HZ.out; omega
      rw [Lib.trimRightS_take (ls s) [32, 9] k (by rw [ls_len]; exact hk) HC.out (fun b h _ => by omega), ← HT.out, tx_ls]
      rfl
theorem lib_le (l : List UInt8) : (Lib.trimRightS l [32, 9]).length ≤ l.length := by
  unfold Lib.trimRightS
  rw [List.length_reverse]
  refine Nat.le_trans (List.dropWhile_sublist _).length_le ?_
  rw [List.length_reverse]; exact Nat.le_refl _
set_option maxRecDepth 100000 in
set_option maxHeartbeats 1000000 in
theorem libTrim_any (s : ByteArray) (w : World) (hs : s.size ≤ 4611686018427387904) :
    Calls Tryd.prog 58 #[.string s, .string ⟨#[32, 9]⟩] w fun e w' => e = .returned (.string (tx (trimT (ls s)))) ∧ Below w.heap.size w w' := by
  by_cases h0 : s.size = 0
  · have h1 := toList_nil s h0
    have e : s = tx (trimT (ls s)) := by
      rw [ls_empty h0]
      exact ls_inj (by rw [ls_empty h0, ls_tx]; rfl)
    have E := Lib.hid e
    clear h0 e
    go_enter Tryd.func58, Tryd.ntmps58
    go_wp2
    go_ret
    exact ⟨by rw [← E.out]; rfl, Below.refl _ _⟩
  · have h1 := toList_ne s (by omega)
    have h2 := toList_ne' s (by omega)
    clear h0
    go_enter Tryd.func58, Tryd.ntmps58
    go_wp2_with fail
    refine (makeSet_any _).mono ?_
    rintro e w1 ⟨rfl, F1⟩
    have A0 := At.new w1 88 Tryd.zeroCells88
    have F2 : Below w.heap.size w (w1.alloc (.cells Tryd.zeroCells88 88)) := F1.alloc F1.size _
    have hN := F1.size
    clear F1
    generalize hw2 : w1.alloc (.cells Tryd.zeroCells88 88) = w2 at A0 F2
    rw [zero_set] at A0
    have S1 := set_stores (l := [32, 9]) A0
    have A1 := A0.row (Lib.setCells [32, 9])
    have F3 : Below w.heap.size w (w2.setRow w1.heap.size (Lib.setCells [32, 9])) := below_row F2 hN
    clear A0 F2
    generalize w2.setRow w1.heap.size (Lib.setCells [32, 9]) = w3 at S1 A1 F3
    subst hw2
    have R1 := trimRight_any (w := w3) A1 s hs
    have R2 := trimLeft_any (w := w3) A1 (tx (Lib.trimRightS (ls s) [32, 9])) (by rw [tx_size]; have := lib_le (ls s); rw [ls_len] at this; omega)
    rw [ls_tx] at R2
    clear A1 hN
    have E : tx (Lib.trimLeftS (Lib.trimRightS (ls s) [32, 9]) [32, 9]) = tx (trimT (ls s)) := rfl
    rw [E] at R2
    clear E
    generalize tx (Lib.trimRightS (ls s) [32, 9]) = m at R1 R2
    generalize hr : tx (trimT (ls s)) = r at R2
    have HR := Lib.hid hr
    clear hr
    unfold setW
    go_wp2_with (refine wpl_store S1 rfl rfl rfl rfl rfl ?_)
    refine R1.mono ?_
    rintro e w' ⟨rfl, rfl⟩
    clear R1 S1
    go_wp2_with fail
    refine R2.mono ?_
    rintro e w' ⟨rfl, rfl⟩
    clear R2
    go_wp2
    go_ret
    exact ⟨by rw [HR.out]; rfl, F3⟩
theorem trim_any (s : ByteArray) (w : World) (hs : s.size ≤ 4611686018427387904) :
    Calls Tryd.prog 51 #[.string s] w fun e w' => e = .returned (.string (tx (trimT (ls s)))) ∧ Below w.heap.size w w' := by
  have r := libTrim_any s w hs
  generalize tx (trimT (ls s)) = t at *
  go_enter Tryd.func51, Tryd.ntmps51
  go_wp2_with fail
  refine r.mono ?_
  rintro e w1 ⟨rfl, F⟩
  clear r
  go_wp2
  go_ret
  exact ⟨rfl, F⟩

/-! ### the document's Trim: from the left first -/
theorem right_cons (c : UInt8) (l : List UInt8) : Lib.trimRightS (c :: l) [32, 9] = if ([32, 9] : List UInt8).contains c = true ∧ Lib.trimRightS l [32, 9] = [] then [] else c :: Lib.trimRightS l [32, 9] := by
  unfold Lib.trimRightS
  rw [List.reverse_cons, List.dropWhile_append]
  by_cases h : (List.dropWhile (fun x => ([32, 9] : List UInt8).contains x) l.reverse).isEmpty = true
  · have e := List.isEmpty_iff.1 h
    rw [if_pos h, e]
    by_cases hc : ([32, 9] : List UInt8).contains c = true
    · rw [if_pos ⟨hc, rfl⟩, List.dropWhile_cons, if_pos hc]; rfl
    · rw [if_neg (fun x => hc x.1), List.dropWhile_cons, if_neg hc]; rfl
  · rw [if_neg h]
    have : ¬ (List.dropWhile (fun x => ([32, 9] : List UInt8).contains x) l.reverse).reverse = [] := fun e => h (by
      have := congrArg List.reverse e
      rw [List.reverse_reverse] at this
      rw [this]; rfl)
    rw [if_neg (fun x => this x.2), List.reverse_append]
    rfl
theorem left_right : ∀ l : List UInt8, Lib.trimRightS (Lib.trimLeftS l [32, 9]) [32, 9] = trimT l
  | [] => rfl
  | c :: l => by
    have ih := left_right l
    unfold trimT Lib.trimS at ih ⊢
    by_cases hc : ([32, 9] : List UInt8).contains c = true
    · have e : Lib.trimLeftS (c :: l) [32, 9] = Lib.trimLeftS l [32, 9] := by unfold Lib.trimLeftS; rw [List.dropWhile_cons, if_pos hc]
      rw [e, ih, right_cons]
      by_cases h : Lib.trimRightS l [32, 9] = []
      · rw [if_pos ⟨hc, h⟩, h]
      · rw [if_neg (fun x => h x.2)]
        unfold Lib.trimLeftS
        rw [List.dropWhile_cons, if_pos hc]
    · have e : Lib.trimLeftS (c :: l) [32, 9] = c :: l := by unfold Lib.trimLeftS; rw [List.dropWhile_cons, if_neg hc]
      rw [e, right_cons, if_neg (fun x => hc x.1)]
      unfold Lib.trimLeftS
      rw [List.dropWhile_cons, if_neg hc]
theorem ref_end {s t r : ByteArray} {k : Nat} (h1 : ls t = Lib.trimLeftS (ls s) [32, 9]) (h2 : ls r = (ls t).take k) (hk : k ≤ (ls t).length) (hc : ∀ (j : Nat) b, k ≤ j → (ls t)[j]? = some b → ([32, 9] : List UInt8).contains b = true) (h : ∀ b, 0 < k → (ls t)[k - 1]? = some b → ([32, 9] : List UInt8).contains b = false) : r = tx (trimT (ls s)) := by
  rw [← left_right, ← h1, Lib.trimRightS_take (ls t) [32, 9] k hk hc h, ← h2, tx_ls]
set_option maxHeartbeats 1000000 in
theorem refTrim_any (s : ByteArray) (w : World) (hs : s.size ≤ 4611686018427387904) :
    Calls Tryd.prog 36 #[.string s] w fun e w' => e = .returned (.string (tx (trimT (ls s)))) ∧ w = w' := by
  go_enter Tryd.func36, Tryd.ntmps36
  go_wp2
  go_loop [0] (fun v => ∃ (k : Nat) (t : ByteArray), k ≤ s.size ∧ v = .string t ∧ ls t = (ls s).drop k ∧ ∀ (j : Nat) b, j < k → (ls s)[j]? = some b → ([32, 9] : List UInt8).contains b = true) (fun v => Lib.strSize v)
  case atStart => exact ⟨0, s, Nat.zero_le _, rfl, rfl, fun j b hj => absurd hj (Nat.not_lt_zero _)⟩
  case round =>
    obtain ⟨k, t, hk, rfl, ht, hc⟩ := hrel
    have hz : t.size + k = s.size := by
      have := congrArg List.length ht
      rw [ls_len, List.length_drop, ls_len] at this
      omega
    have HT := Lib.hid ht
    have HC := Lib.hid hc
    clear ht hc
    have HZ := Lib.hid hz
    clear hz
    have hg := get_bt t
    have hts : t.size ≤ 4611686018427387904 := by have := HZ.out; omega
    by_cases h0 : 0 < t.size
    · obtain ⟨c, gc, ec, _, _, dc⟩ := get_ls h0
      have gs : (ls s)[k]? = some c := by
        have := HT.out
        rw [this, List.getElem?_drop] at gc
        simpa using gc
      have b0 := bt_nonneg t 0
      have b1 := bt_le t 0
      have l0 : (0 : Int) < (t.size : Int) := by omega
      have l1 : (1 : Int) ≤ (t.size : Int) := by omega
      have e1 : ls (t.extract 1 t.size) = (ls s).drop (k + 1) := by
        rw [ls_extract, HT.out, List.drop_drop, List.take_of_length_le (by rw [List.length_drop, ls_len]; have := HZ.out; omega)]
      have HE := Lib.hid e1
      have GS := Lib.hid gs
      have EC := Lib.hid ec
      clear e1 gs ec gc dc
      have YES : wsN (bt t 0) = true → ∀ (j : Nat) b, j < k + 1 → (ls s)[j]? = some b → ([32, 9] : List UInt8).contains b = true := fun hw j b hj hb => by
        by_cases e : j = k
        · subst e
          rw [GS.out] at hb
          rw [← Option.some.inj hb, ws_is, ← EC.out]
          exact hw
        · exact HC.out j b (by omega) hb
      have Y := Lib.hid YES
      clear YES
      by_cases q1 : bt t 0 = 32
      · have HW := Lib.hid (Y.out (by rw [q1]; rfl))
        have g1 : (bt t 0 == 32) = true := by rw [q1]; rfl
        clear q1
        go_wp2
        go_round
        case rel => exact ⟨k + 1, _, by have := HZ.out; omega, rfl, HE.out, HW.out⟩
        case measure => simp [Lib.strSize, ByteArray.size_extract]; omega
      by_cases q2 : bt t 0 = 9
      · have HW := Lib.hid (Y.out (by rw [q2]; rfl))
        have g1 : (bt t 0 == 32) = false := by rw [q2]; rfl
        have g2 : (bt t 0 == 9) = true := by rw [q2]; rfl
        clear q1 q2
        go_wp2
        go_round
        case rel => exact ⟨k + 1, _, by have := HZ.out; omega, rfl, HE.out, HW.out⟩
        case measure => simp [Lib.strSize, ByteArray.size_extract]; omega
      have g1 : (bt t 0 == 32) = false := beq_eq_false_iff_ne.2 q1
      have g2 : (bt t 0 == 9) = false := beq_eq_false_iff_ne.2 q2
      have HL := Lib.hid (Lib.trimLeftS_drop (ls s) [32, 9] k (by rw [ls_len]; exact hk) HC.out (fun b hb => by
        rw [GS.out] at hb
        rw [← Option.some.inj hb, ws_is, ← EC.out]
        unfold wsN; rw [g1, g2]; rfl))
      clear q1 q2 Y
      go_wp2
      have hm : ls t = Lib.trimLeftS (ls s) [32, 9] := by rw [HL.out]; exact HT.out
      have HM := Lib.hid hm
      clear hm HL HT HC HZ hg
      go_loop [0] (fun v => ∃ (k : Nat) (u : ByteArray), k ≤ t.size ∧ v = .string u ∧ ls u = (ls t).take k ∧ ∀ (j : Nat) b, k ≤ j → (ls t)[j]? = some b → ([32, 9] : List UInt8).contains b = true) (fun v => Lib.strSize v)
      case atStart => exact ⟨t.size, t, Nat.le_refl _, rfl, by rw [List.take_of_length_le (by rw [ls_len]; exact Nat.le_refl _)], fun j b hj hb => by
        rw [List.getElem?_eq_none (by rw [ls_len]; exact hj)] at hb; cases hb⟩
      case round =>
        obtain ⟨k, u, hk, rfl, hu, hc⟩ := hrel
        have hz : u.size = k := by
          have := congrArg List.length hu
          rw [ls_len, List.length_take, ls_len] at this
          omega
        have HU := Lib.hid hu
        have HC := Lib.hid hc
        clear hu hc
        have HZ := Lib.hid hz
        clear hz
        have hg := get_bt u
        have hus : u.size ≤ 4611686018427387904 := by have := HZ.out; omega
        have END := Lib.hid (fun h => ref_end (r := u) HM.out HU.out (by rw [ls_len]; exact hk) HC.out h)
        by_cases h0 : 0 < u.size
        · obtain ⟨n, hn⟩ : ∃ n, u.size = n + 1 := ⟨u.size - 1, by omega⟩
          obtain ⟨c, gc, ec, _, tc, _⟩ := get_ls (s := u) (k := n) (by omega)
          have gs : (ls t)[n]? = some c := by
            have := HU.out
            rw [this, List.getElem?_take] at gc
            rw [if_pos (by have := HZ.out; omega)] at gc
            exact gc
          have b0 := bt_nonneg u n
          have b1 := bt_le u n
          have i1 : (u.size : Int) - 1 = (n : Int) := by omega
          have i2 : (n : Int) < (u.size : Int) := by omega
          have i3 : (n : Int) ≤ (u.size : Int) := by omega
          have i4 : (0 : Int) ≤ (n : Int) := Int.natCast_nonneg _
          have hn1 : n < u.size := by omega
          have HN := Lib.hid hn
          clear hn
          have l0 : (0 : Int) < (u.size : Int) := by omega
          have e1 : ls (u.extract 0 n) = (ls t).take n := by
            rw [ls_extract, HU.out, List.drop_zero, List.take_take, Nat.sub_zero, Nat.min_eq_left (by have := HZ.out; have := HN.out; omega)]
          have HE := Lib.hid e1
          have GS := Lib.hid gs
          have EC := Lib.hid ec
          clear e1 gs ec gc tc
          have Y := Lib.hid (show wsN (bt u n) = true → ∀ (j : Nat) b, n ≤ j → (ls t)[j]? = some b → ([32, 9] : List UInt8).contains b = true from fun hw j b hj hb => by
            by_cases e : j = n
            · subst e
              rw [GS.out] at hb
              rw [← Option.some.inj hb, ws_is, ← EC.out]
              exact hw
            · exact HC.out j b (by have := HZ.out; have := HN.out; omega) hb)
          by_cases q1 : bt u n = 32
          · have HW := Lib.hid (Y.out (by rw [q1]; rfl))
            have g1 : (bt u n == 32) = true := by rw [q1]; rfl
            clear q1
            go_wp2
            go_round
            case rel => exact ⟨n, _, by have := HZ.out; omega, rfl, HE.out, HW.out⟩
            case measure => simp [Lib.strSize, ByteArray.size_extract]; omega
          by_cases q2 : bt u n = 9
          · have HW := Lib.hid (Y.out (by rw [q2]; rfl))
            have g1 : (bt u n == 32) = false := by rw [q2]; rfl
            have g2 : (bt u n == 9) = true := by rw [q2]; rfl
            clear q1 q2
            go_wp2
            go_round
            case rel => exact ⟨n, _, by have := HZ.out; omega, rfl, HE.out, HW.out⟩
            case measure => simp [Lib.strSize, ByteArray.size_extract]; omega
          have g1 : (bt u n == 32) = false := beq_eq_false_iff_ne.2 q1
          have g2 : (bt u n == 9) = false := beq_eq_false_iff_ne.2 q2
          have FIN := Lib.hid (END.out (fun b _ hb => by
            rw [show k - 1 = n by have := HZ.out; have := HN.out; omega, GS.out] at hb
            rw [← Option.some.inj hb, ws_is, ← EC.out]
            unfold wsN; rw [g1, g2]; rfl))
          clear q1 q2 Y
          go_wp2
          go_ret
          exact ⟨by rw [← FIN.out]; rfl, rfl⟩
        · have l0 : ¬ (0 : Int) < (u.size : Int) := by omega
          have FIN := Lib.hid (END.out (fun b h _ => by have := HZ.out; omega))
          go_wp2
          go_ret
          exact ⟨by rw [← FIN.out]; rfl, rfl⟩
    · have l0 : ¬ (0 : Int) < (t.size : Int) := by omega
      have HL := Lib.hid (Lib.trimLeftS_drop (ls s) [32, 9] k (by rw [ls_len]; exact hk) HC.out (fun b hb => by
        rw [List.getElem?_eq_none (by rw [ls_len]; have := HZ.out; omega)] at hb; cases hb))
      go_wp2
      have hm : ls t = Lib.trimLeftS (ls s) [32, 9] := by rw [HL.out]; exact HT.out
      have HM := Lib.hid hm
      clear hm HL HT HC HZ hg
      go_loop [0] (fun v => ∃ (k : Nat) (u : ByteArray), k ≤ t.size ∧ v = .string u ∧ ls u = (ls t).take k ∧ ∀ (j : Nat) b, k ≤ j → (ls t)[j]? = some b → ([32, 9] : List UInt8).contains b = true) (fun v => Lib.strSize v)
      case atStart => exact ⟨t.size, t, Nat.le_refl _, rfl, by rw [List.take_of_length_le (by rw [ls_len]; exact Nat.le_refl _)], fun j b hj hb => by
        rw [List.getElem?_eq_none (by rw [ls_len]; exact hj)] at hb; cases hb⟩
      case round =>
        obtain ⟨k, u, hk, rfl, hu, hc⟩ := hrel
        have hz : u.size = k := by
          have := congrArg List.length hu
          rw [ls_len, List.length_take, ls_len] at this
          omega
        have HU := Lib.hid hu
        have HC := Lib.hid hc
        clear hu hc
        have HZ := Lib.hid hz
        clear hz
        have hg := get_bt u
        have hus : u.size ≤ 4611686018427387904 := by have := HZ.out; omega
        have END := Lib.hid (fun h => ref_end (r := u) HM.out HU.out (by rw [ls_len]; exact hk) HC.out h)
        by_cases h0 : 0 < u.size
        · obtain ⟨n, hn⟩ : ∃ n, u.size = n + 1 := ⟨u.size - 1, by omega⟩
          obtain ⟨c, gc, ec, _, tc, _⟩ := get_ls (s := u) (k := n) (by omega)
          have gs : (ls t)[n]? = some c := by
            have := HU.out
            rw [this, List.getElem?_take] at gc
            rw [if_pos (by have := HZ.out; omega)] at gc
            exact gc
          have b0 := bt_nonneg u n
          have b1 := bt_le u n
          have i1 : (u.size : Int) - 1 = (n : Int) := by omega
          have i2 : (n : Int) < (u.size : Int) := by omega
          have i3 : (n : Int) ≤ (u.size : Int) := by omega
          have i4 : (0 : Int) ≤ (n : Int) := Int.natCast_nonneg _
          have hn1 : n < u.size := by omega
          have HN := Lib.hid hn
          clear hn
          have l0 : (0 : Int) < (u.size : Int) := by omega
          have e1 : ls (u.extract 0 n) = (ls t).take n := by
            rw [ls_extract, HU.out, List.drop_zero, List.take_take, Nat.sub_zero, Nat.min_eq_left (by have := HZ.out; have := HN.out; omega)]
          have HE := Lib.hid e1
          have GS := Lib.hid gs
          have EC := Lib.hid ec
          clear e1 gs ec gc tc
          have Y := Lib.hid (show wsN (bt u n) = true → ∀ (j : Nat) b, n ≤ j → (ls t)[j]? = some b → ([32, 9] : List UInt8).contains b = true from fun hw j b hj hb => by
            by_cases e : j = n
            · subst e
              rw [GS.out] at hb
              rw [← Option.some.inj hb, ws_is, ← EC.out]
              exact hw
            · exact HC.out j b (by have := HZ.out; have := HN.out; omega) hb)
          by_cases q1 : bt u n = 32
          · have HW := Lib.hid (Y.out (by rw [q1]; rfl))
            have g1 : (bt u n == 32) = true := by rw [q1]; rfl
            clear q1
            go_wp2
            go_round
            case rel => exact ⟨n, _, by have := HZ.out; omega, rfl, HE.out, HW.out⟩
            case measure => simp [Lib.strSize, ByteArray.size_extract]; omega
          by_cases q2 : bt u n = 9
          · have HW := Lib.hid (Y.out (by rw [q2]; rfl))
            have g1 : (bt u n == 32) = false := by rw [q2]; rfl
            have g2 : (bt u n == 9) = true := by rw [q2]; rfl
            clear q1 q2
            go_wp2
            go_round
            case rel => exact ⟨n, _, by have := HZ.out; omega, rfl, HE.out, HW.out⟩
            case measure => simp [Lib.strSize, ByteArray.size_extract]; omega
          have g1 : (bt u n == 32) = false := beq_eq_false_iff_ne.2 q1
          have g2 : (bt u n == 9) = false := beq_eq_false_iff_ne.2 q2
          have FIN := Lib.hid (END.out (fun b _ hb => by
            rw [show k - 1 = n by have := HZ.out; have := HN.out; omega, GS.out] at hb
            rw [← Option.some.inj hb, ws_is, ← EC.out]
            unfold wsN; rw [g1, g2]; rfl))
          clear q1 q2 Y
          go_wp2
          go_ret
          exact ⟨by rw [← FIN.out]; rfl, rfl⟩
        · have l0 : ¬ (0 : Int) < (u.size : Int) := by omega
          have FIN := Lib.hid (END.out (fun b h _ => by have := HZ.out; omega))
          go_wp2
          go_ret
          exact ⟨by rw [← FIN.out]; rfl, rfl⟩
end Go.Proofs.YtdldoklkenhopaaDoor.Fi
