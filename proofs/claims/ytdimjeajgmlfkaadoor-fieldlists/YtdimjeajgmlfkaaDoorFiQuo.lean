/-
  Contracts of small and unquoted of package field.
-/
import Derived.Test.YtdimjeajgmlfkaaDoorFiFrame
import Derived.Lib.ConvBytes
namespace Go.Proofs.YtdimjeajgmlfkaaDoor.Fi
open Go.RowKit Go.PlainAid
open Hx
set_option linter.unusedVariables false
set_option maxRecDepth 20000
set_option linter.unusedSimpArgs false

/-! ### rows of bytes that came of a text -/
/-- block B holds the bytes l, which may be written -/
structure RowB (w : World) (B : Nat) (l : List UInt8) : Prop where
  cell : ∀ (j : Nat) (x : UInt8), l[j]? = some x → w.cell? ⟨B, j, none⟩ = some (.int .u8 (x.toNat : Int)) ∧ w.frozen? ⟨B, j, none⟩ = false
theorem RowB.old {w w' : World} {B : Nat} {l : List UInt8} (h : RowB w B l) (hw : w'.heap[B]? = w.heap[B]?) : RowB w' B l :=
  ⟨fun j x hx => by rw [World.cell?_of_block (w := w) hw, World.frozen?_of_block (w := w) hw]; exact h.cell j x hx⟩
theorem RowB.below {w w' : World} {B N : Nat} {l : List UInt8} (h : RowB w B l) (hb : Below N w w') (hB : B < N) : RowB w' B l := h.old (hb.block B hB)
theorem cell_ne {w : World} {B j i : Nat} {u v : Value} (h : j ≠ i) (hc : w.cell? ⟨B, j, none⟩ = some u) : (w.setCell ⟨B, i, none⟩ v).cell? ⟨B, j, none⟩ = some u := by
  rw [World.cell?_setCell_other _ _ _ _ (by intro e; injection e; omega)]; exact hc
theorem RowB.set {w : World} {B : Nat} {l : List UInt8} (h : RowB w B l) (i : Nat) (v : UInt8) (hi : i < l.length) : RowB (w.setCell ⟨B, i, none⟩ (.int .u8 (v.toNat : Int))) B (l.set i v) := by
  refine ⟨fun j x hx => ?_⟩
  rw [World.frozen?_setCell]
  by_cases e : j = i
  · subst e
    rw [List.getElem?_set_self hi] at hx
    obtain rfl : v = x := by simpa using hx
    have c := h.cell j l[j] (List.getElem?_eq_getElem hi)
    exact ⟨World.cell?_setCell_same _ _ _ c.1, c.2⟩
  · rw [List.getElem?_set_ne (by omega)] at hx
    exact ⟨cell_ne e (h.cell j x hx).1, (h.cell j x hx).2⟩
theorem RowB.conv {w : World} {B cap : Nat} {l : List UInt8} (h : RowB w B l) {n : Nat} (hn : l.length = n) : (convert 62 9 (.slice (some ⟨B, 0, none⟩) n cap)).run Tryd.prog w = .ok (.string (tx l)) w := by
  subst hn
  exact run_convert_bytes_back (P := Tryd.prog) w 62 9 5 ⟨B, 0, none⟩ cap l Tryd.underlying62 Tryd.underlying5 Tryd.underlying9 (fun j hj => by
    rw [add_at, Nat.zero_add]
    exact (h.cell j l[j] (List.getElem?_eq_getElem hj)).1)
theorem bytes_row (w : World) (s : ByteArray) : ∃ cap X, (convert 9 62 (.string s)).run Tryd.prog w = .ok (.slice (some ⟨w.heap.size, 0, none⟩) s.size cap) X ∧ RowB X w.heap.size (ls s) ∧ Below w.heap.size w X ∧ w.heap.size < X.heap.size := by
  refine ⟨_, _, Lib.run_convert_string_bytes w 9 62 5 s Tryd.underlying9 Tryd.underlying62 Tryd.underlying5, ⟨?_⟩, ?_, ?_⟩
  · intro j x hx
    have hj : j < s.size := by
      have := (List.getElem?_eq_some_iff.1 hx).1
      rwa [ls_len] at this
    refine ⟨?_, ?_⟩
    · rw [Lib.bytesWorld_cell w 5 s j hj]
      have e := (List.getElem?_eq_some_iff.1 hx).2
      simp [ls] at e
      simp [← e, hj]
    · have hz : s.size ≤ (Lib.bytesCells w 5 s).size := by simp [Lib.bytesCells]
      have hn := Lib.bytesWorld_at_new w 5 s
      simp [World.frozen?, hn]; omega
  · exact ⟨rfl, rfl, rfl, by rw [Lib.bytesWorld_size]; omega, fun k hk => Lib.bytesWorld_at_old w 5 s k hk⟩
  · rw [Lib.bytesWorld_size]; omega
/-- the first k letters made small -/
def mixL (s : ByteArray) (k : Nat) : List UInt8 := low ((ls s).take k) ++ (ls s).drop k
theorem mixL_zero (s : ByteArray) : mixL s 0 = ls s := by simp [mixL, low]
theorem mixL_len (s : ByteArray) (k : Nat) : (mixL s k).length = s.size := by
  unfold mixL low
  rw [List.length_append, List.length_map, ← List.length_append, List.take_append_drop, ls_len]
theorem mixL_end (s : ByteArray) (k : Nat) (h : s.size ≤ k) : mixL s k = low (ls s) := by
  unfold mixL
  rw [List.take_of_length_le (by rw [ls_len]; exact h), List.drop_of_length_le (by rw [ls_len]; exact h), List.append_nil]
theorem mixL_step (s : ByteArray) (k : Nat) (h : k < s.size) : ∃ c, (mixL s k)[k]? = some c ∧ (mixL s k).set k (lowB c) = mixL s (k + 1) := by
  obtain ⟨c, gc, _, _, tc, dc⟩ := get_ls h
  have hlen : (low ((ls s).take k)).length = k := by unfold low; rw [List.length_map, List.length_take, ls_len]; omega
  refine ⟨c, ?_, ?_⟩
  · unfold mixL
    rw [List.getElem?_append_right (by omega), hlen, Nat.sub_self, dc]; rfl
  · unfold mixL
    rw [dc, List.set_append_right _ _ (by omega), hlen, Nat.sub_self, List.set_cons_zero, tc]
    unfold low
    rw [List.map_append]
    simp
set_option maxHeartbeats 1000000 in
theorem small_any (s : ByteArray) (w : World) (hs : s.size ≤ 1099511627776) :
    Calls Tryd.prog 61 #[.string s] w fun e w' => e = .returned (.string (tx (low (ls s)))) ∧ Below w.heap.size w w' := by
  obtain ⟨cap, X, hcv, R0, F0, hlt⟩ := bytes_row w s
  generalize hr : tx (low (ls s)) = r
  have HR := Lib.hid hr
  clear hr
  have R0' := Lib.hid R0
  clear R0
  go_enter Tryd.func61, Tryd.ntmps61
  go_wp2
  clear hcv
  go_loopw [10] (fun i wr => ∃ k : Nat, k ≤ s.size ∧ i = .int .i64 k ∧ Hid (RowB wr w.heap.size (mixL s k)) ∧ Below w.heap.size w wr) (fun i _ => s.size - (intOf i).toNat)
  case atStart => exact ⟨0, Nat.zero_le _, rfl, Lib.hid (by rw [mixL_zero]; exact R0'.out), F0⟩
  case round =>
    clear F0 hlt R0'
    obtain ⟨k, hk, rfl, R, F⟩ := hrel
    by_cases hlt : k < s.size
    · obtain ⟨c, gc, st⟩ := mixL_step s k hlt
      have ST := Lib.hid st
      obtain ⟨c1, f1⟩ := R.out.cell k c gc
      have R2 := Lib.hid (R.out.set k (lowB c) (by rw [mixL_len]; exact hlt))
      rw [lowB_nat] at R2
      have c0 : (0 : Int) ≤ (c.toNat : Int) := by omega
      have c2 : (c.toNat : Int) ≤ 255 := by have := c.toNat_lt; omega
      have l1 : (k : Int) < (s.size : Int) := by omega
      have F2 := below_set F k (.int .u8 (lowN (c.toNat : Int)))
      have sm := fun w => smallByte_any (c.toNat : Int) w c0 c2
      generalize lowN (c.toNat : Int) = d at R2 F2 sm
      generalize (c.toNat : Int) = C at c1 sm
      clear st gc R c0 c2
      go_wp2_with fail
      refine (sm _).mono ?_
      rintro e w' ⟨rfl, rfl⟩
      clear sm
      go_wp2
      go_roundw
      case rel => exact ⟨k + 1, by omega, by go_num, Lib.hid (by rw [← ST.out]; exact R2.out), F2⟩
      case measure => simp [intOf]; omega
    · have l1 : ¬ (k : Int) < (s.size : Int) := by omega
      have CV := R.out.conv (cap := cap) (mixL_len s k)
      rw [mixL_end s k (by omega), HR.out] at CV
      go_wp2
      go_ret
      exact ⟨rfl, F⟩

/-! ### unquoted -/
def qV (l : List UInt8) : List UInt8 := (quoF l).getD []
def qB (l : List UInt8) : Bool := (quoF l).isSome
theorem uq_yes {l : List UInt8} {c : UInt8} {x : List UInt8} (hc : c = 34) (h : uqF l [] = some x) : qV (c :: l) = x ∧ qB (c :: l) = true := by
  have : quoF (c :: l) = some x := by
    show (if c = 34 then uqF l [] else none) = some x
    rw [if_pos hc, h]
  unfold qV qB
  rw [this]; exact ⟨rfl, rfl⟩
theorem uq_no {l : List UInt8} {c : UInt8} (h : c ≠ 34 ∨ uqF l [] = none) : qV (c :: l) = [] ∧ qB (c :: l) = false := by
  have : quoF (c :: l) = none := by
    show (if c = 34 then uqF l [] else none) = none
    split
    · rcases h with h | h
      · rename_i hc; exact absurd hc h
      · exact h
    · rfl
  unfold qV qB
  rw [this]; exact ⟨rfl, rfl⟩
theorem uq_nil : qV [] = [] ∧ qB [] = false := ⟨rfl, rfl⟩
theorem new_byte (w : World) (c : Int) : ∀ j u, ([Value.int .u8 c] : List Value)[j]? = some u → (w.alloc (.cells #[.int .u8 c] 5)).cell? ((⟨w.heap.size, 0, none⟩ : Addr).add j) = some u := by
  intro j u hj
  rw [add_at, Nat.zero_add, (At.new w _ _).cell]
  simpa using hj
def UqInv (s : ByteArray) (R : Option (List UInt8)) (k : Nat) (acc : List UInt8) : Prop := uqF ((ls s).drop k) acc = R
theorem bytesV_snoc (l : List UInt8) (c : UInt8) : bytesV l ++ [Value.int .u8 (c.toNat : Int)] = bytesV (l ++ [c]) := by rw [bytesV_append]; rfl
set_option maxRecDepth 200000 in
set_option maxHeartbeats 2000000 in
theorem unquoted_any (s : ByteArray) (w : World) (hs : s.size ≤ 1099511627776) :
    Calls Tryd.prog 75 #[.string s] w fun e w' => e = .returned (.tuple #[.string (tx (qV (ls s))), .bool (qB (ls s))]) ∧ Below w.heap.size w w' := by
  by_cases h0 : s.size = 0
  · have h1 := toList_nil s h0
    rw [ls_empty h0, uq_nil.1, uq_nil.2]
    clear h0
    go_enter Tryd.func75, Tryd.ntmps75
    go_wp2
    go_ret2
    exact ⟨rfl, Below.refl _ _⟩
  have e1 := toList_ne s (by omega)
  have e2 := toList_ne' s (by omega)
  have hg := get_bt s
  obtain ⟨c0, _, ec0, _, _, dc0⟩ := get_ls (s := s) (k := 0) (by omega)
  rw [List.drop_zero] at dc0
  rw [dc0]
  by_cases q34 : bt s 0 = 34
  · have hc34 : c0 = 34 := (byte_eq c0 34).1 (by rw [← ec0, q34]; rfl)
    have g : (bt s 0 != 34) = false := by rw [q34]; rfl
    obtain ⟨i0, hi, hz0, hz1, hz2⟩ := info_parts info5
    generalize hR : uqF ((ls s).drop (0 + 1)) [] = R
    have HQ : Hid ((∀ x, R = some x → qV (c0 :: (ls s).drop (0 + 1)) = x ∧ qB (c0 :: (ls s).drop (0 + 1)) = true) ∧ (R = none → qV (c0 :: (ls s).drop (0 + 1)) = [] ∧ qB (c0 :: (ls s).drop (0 + 1)) = false)) :=
      Lib.hid ⟨fun x h => uq_yes hc34 (by rw [hR, h]), fun h => uq_no (.inr (by rw [hR, h]))⟩
    have HR := Lib.hid (show UqInv s R 1 [] from hR)
    generalize qV (c0 :: (ls s).drop (0 + 1)) = QV at HQ ⊢
    generalize qB (c0 :: (ls s).drop (0 + 1)) = QB at HQ ⊢
    clear hR dc0 ec0 hc34 q34
    go_enter Tryd.func75, Tryd.ntmps75
    go_wp2_with (at_make; refine wpList_make_own _ rfl _ _ 62 rfl w.heap.size 5 i0 (.int .u8 0) 1 Tryd.underlying62 hi hz0 hz1 .i64 .i64 _ s.size rfl rfl (by omega) (by rw [hz2]; omega) (by unfold maxLen; omega) (Nat.le_refl _) ?_; intro w0 hown0 hgrow0)
    go_loopw [4, 5] (fun v i wr => ∃ (k m : Nat) (acc : List UInt8) (b : Option Addr) (c : Nat), 1 ≤ k ∧ k ≤ s.size ∧ m ≤ k ∧ i = .int .i64 k ∧ v = .slice b m c ∧ Hid (m = acc.length) ∧ wr.ownsRow w.heap.size 5 1 (.slice b m c) m (bytesV acc) ∧ Below w.heap.size w wr ∧ Hid (UqInv s R k acc)) (fun _ i _ => s.size - (intOf i).toNat)
    case atStart =>
      obtain ⟨b, c, hsh⟩ := own_shape hown0
      rw [hsh] at hown0
      exact ⟨1, 0, [], b, c, Nat.le_refl _, by omega, by omega, rfl, hsh, Lib.hid rfl, by simpa [bytesV] using hown0, (Below.refl _ _).grown hgrow0 (Nat.le_refl _) (fun k h => by cases h), HR⟩
    case round =>
      clear hown0 hgrow0 HR g e1 e2
      obtain ⟨k, m, acc, b, c, hk1, hk, hm, rfl, rfl, HM, own, bel, INV⟩ := hrel
      have hN := bel.size
      by_cases hlt : k < s.size
      · have l1 : (k : Int) < (s.size : Int) := by omega
        obtain ⟨x, _, ex, _, _, dx⟩ := get_ls hlt
        by_cases p34 : bt s k = 34
        · have hx : x = 34 := (byte_eq x 34).1 (by rw [← ex, p34]; rfl)
          have g34 : (bt s k == 34) = true := by rw [p34]; rfl
          by_cases hend : k + 1 = s.size
          · have hz : (k : Int) = (s.size : Int) - 1 := by omega
            have hR : R = some acc := by
              have := INV.out
              unfold UqInv at this
              rw [← this, dx, hx, List.drop_of_length_le (by rw [ls_len]; omega), uqF_end]
            have Q := Lib.hid (HQ.out.1 acc hR)
            have hl2 : ((k : Int) == (s.size : Int) - 1) = true := by rw [← hz]; simp
            have CV := conv_row (n := m) own
            clear dx ex hx p34 INV hend hR hz
            go_wp2
            go_ret2
            exact ⟨by rw [Q.out.1, Q.out.2]; rfl, bel⟩
          · have hR : R = none := by
              have := INV.out
              unfold UqInv at this
              rw [← this, dx, hx, uqF_quote acc (fun e => by
                have := congrArg List.length e
                rw [List.length_drop, ls_len] at this
                simp at this; omega)]
            have Q := Lib.hid (HQ.out.2 hR)
            have hl2 : ((k : Int) == (s.size : Int) - 1) = false := by rw [beq_eq_false_iff_ne]; omega
            clear dx ex hx p34 INV hend hR
            go_wp2
            go_ret2
            exact ⟨by rw [Q.out.1, Q.out.2]; rfl, bel⟩
        have g34 : (bt s k == 34) = false := beq_eq_false_iff_ne.2 p34
        by_cases p92 : bt s k = 92
        · have hx : x = 92 := (byte_eq x 92).1 (by rw [← ex, p92]; rfl)
          have g92 : (bt s k == 92) = true := by rw [p92]; rfl
          by_cases hend : k + 1 < s.size
          · obtain ⟨y, _, ey, _, _, dy⟩ := get_ls hend
            have I2 := Lib.hid (show UqInv s R (k + 2) (acc ++ [y]) from by
              have := INV.out
              unfold UqInv at this ⊢
              rw [← this, dx, hx, dy, uqF_esc])
            have hl2 : (k : Int) < (s.size : Int) - 1 := by omega
            have hl3 : (k : Int) + 1 < (s.size : Int) := by omega
            have EY := Lib.hid ey
            clear dx ex hx p34 p92 INV dy ey
            go_wp2_with (at_builtin; refine wpList_append_own _ rfl _ _ 62 rfl w.heap.size 5 i0 (.int .u8 0) 1 1 Tryd.underlying62 hi hz0 hz1 hz2 rfl (by decide) _ _ _ rfl (own.alloc _) ⟨wr.heap.size, 0, none⟩ 1 1 [_] rfl rfl (new_byte wr _) (by intro u hu; simp at hu; subst hu; rfl) (by unfold maxLen; omega) (by omega) (by simp; omega) ?_; intro v' w4 own4 hgrow hcb)
            have own5 : w4.ownsRow w.heap.size 5 1 v' (m + 1) (bytesV (acc ++ [y])) := by
              rw [← bytesV_snoc, ← EY.out]
              exact own4
            have bel5 := (bel.alloc hN (.cells #[.int .u8 (bt s (k + 1))] 5)).grown hgrow (by simp; omega) (fun j hj => (own.lt j hj).1)
            clear own4 own hgrow bel
            obtain ⟨b', c', rfl⟩ := own_shape own5
            go_roundw
            case rel => exact ⟨k + 2, m + 1, acc ++ [y], b', c', by omega, by omega, by omega, by go_num, rfl, Lib.hid (by rw [List.length_append, ← HM.out]; rfl), own5, bel5, I2⟩
            case measure => simp [intOf]; omega
          · have I2 := Lib.hid (show UqInv s R (k + 1) (acc ++ [x]) from by
              have := INV.out
              unfold UqInv at this ⊢
              rw [← this, dx, hx, List.drop_of_length_le (by rw [ls_len]; omega), uqF_last, uqF_nil])
            have hl2 : ¬ (k : Int) < (s.size : Int) - 1 := by omega
            have EX := Lib.hid ex
            clear dx hx p34 p92 INV ex
            go_wp2_with (at_builtin; refine wpList_append_own _ rfl _ _ 62 rfl w.heap.size 5 i0 (.int .u8 0) 1 1 Tryd.underlying62 hi hz0 hz1 hz2 rfl (by decide) _ _ _ rfl (own.alloc _) ⟨wr.heap.size, 0, none⟩ 1 1 [_] rfl rfl (new_byte wr _) (by intro u hu; simp at hu; subst hu; rfl) (by unfold maxLen; omega) (by omega) (by simp; omega) ?_; intro v' w4 own4 hgrow hcb)
            have own5 : w4.ownsRow w.heap.size 5 1 v' (m + 1) (bytesV (acc ++ [x])) := by
              rw [← bytesV_snoc, ← EX.out]
              exact own4
            have bel5 := (bel.alloc hN (.cells #[.int .u8 (bt s k)] 5)).grown hgrow (by simp; omega) (fun j hj => (own.lt j hj).1)
            clear own4 own hgrow bel
            obtain ⟨b', c', rfl⟩ := own_shape own5
            go_roundw
            case rel => exact ⟨k + 1, m + 1, acc ++ [x], b', c', by omega, by omega, by omega, by go_num, rfl, Lib.hid (by rw [List.length_append, ← HM.out]; rfl), own5, bel5, I2⟩
            case measure => simp [intOf]; omega
        · have g92 : (bt s k == 92) = false := beq_eq_false_iff_ne.2 p92
          have I2 := Lib.hid (show UqInv s R (k + 1) (acc ++ [x]) from by
            have := INV.out
            unfold UqInv at this ⊢
            rw [← this, dx, uqF_else _ _ (fun e => p34 (by rw [ex, e]; rfl)) (fun e => p92 (by rw [ex, e]; rfl))])
          have EX := Lib.hid ex
          clear dx p34 p92 INV ex
          go_wp2_with (at_builtin; refine wpList_append_own _ rfl _ _ 62 rfl w.heap.size 5 i0 (.int .u8 0) 1 1 Tryd.underlying62 hi hz0 hz1 hz2 rfl (by decide) _ _ _ rfl (own.alloc _) ⟨wr.heap.size, 0, none⟩ 1 1 [_] rfl rfl (new_byte wr _) (by intro u hu; simp at hu; subst hu; rfl) (by unfold maxLen; omega) (by omega) (by simp; omega) ?_; intro v' w4 own4 hgrow hcb)
          have own5 : w4.ownsRow w.heap.size 5 1 v' (m + 1) (bytesV (acc ++ [x])) := by
            rw [← bytesV_snoc, ← EX.out]
            exact own4
          have bel5 := (bel.alloc hN (.cells #[.int .u8 (bt s k)] 5)).grown hgrow (by simp; omega) (fun j hj => (own.lt j hj).1)
          clear own4 own hgrow bel
          obtain ⟨b', c', rfl⟩ := own_shape own5
          go_roundw
          case rel => exact ⟨k + 1, m + 1, acc ++ [x], b', c', by omega, by omega, by omega, by go_num, rfl, Lib.hid (by rw [List.length_append, ← HM.out]; rfl), own5, bel5, I2⟩
          case measure => simp [intOf]; omega
      · have l1 : ¬ (k : Int) < (s.size : Int) := by omega
        have hR : R = none := by
          have := INV.out
          unfold UqInv at this
          rw [← this, List.drop_of_length_le (by rw [ls_len]; omega), uqF_nil]
        have Q := Lib.hid (HQ.out.2 hR)
        clear INV hR
        go_wp2
        go_ret2
        exact ⟨by rw [Q.out.1, Q.out.2]; rfl, bel⟩
  · have hc34 : c0 ≠ 34 := fun e => q34 (by rw [ec0, e]; rfl)
    have g : (bt s 0 != 34) = true := by rw [bne_iff_ne]; exact q34
    have U := uq_no (l := (ls s).drop (0 + 1)) (.inl hc34)
    rw [U.1, U.2]
    clear U dc0 ec0 hc34 q34
    go_enter Tryd.func75, Tryd.ntmps75
    go_wp2
    go_ret2
    exact ⟨rfl, Below.refl _ _⟩
end Go.Proofs.YtdimjeajgmlfkaaDoor.Fi
