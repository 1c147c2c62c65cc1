/-
  Contract of cut of package field: the trimmed parts of a value between marks that aren't in quotes.
  Contracts of Elements, has and Closes of package field.
  Contracts of has, Closes, lengthOf and Frame of package field.
  Contracts of small and unquoted of package field.
  Contract of Line of package inlet: a request line.
  Contract of Line of package inlet.
  Contracts of Answer and Ask of package outlet. Conditions: at most 60 fields; texts within the form's reach.
-/
import Derived.Test.YtdldoklkenhopaaGreatDoorSet3
import Derived.Lib.ConvBytes
import Derived.Test.YtdldoklkenhopaaGreatDoorSet5
import Derived.Test.YtdldoklkenhopaaGreatDoorSet2
import Derived.Test.YtdldoklkenhopaaGreatDoorSet1
section
namespace Go.Proofs.YtdldoklkenhopaaGreatDoor.Fi
open Go.RowKit Go.PlainAid
open Hx
set_option linter.unusedVariables false
set_option maxRecDepth 20000
set_option linter.unusedSimpArgs false

/-- where the walk of cut stands -/
structure CutInv (mark : UInt8) (s : ByteArray) (k b : Nat) (q : Bool) (ps : List ByteArray) : Prop where
  inv : (cutA mark (ls s)).map tx = ps ++ (cutQ mark ((ls s).drop k) q (((ls s).take k).drop b)).map tx
theorem CutInv.zero (mark : UInt8) (s : ByteArray) : CutInv mark s 0 0 false [] := ⟨by simp [cutA]⟩
section
variable {mark : UInt8} {s : ByteArray} {k b : Nat} {q : Bool} {ps : List ByteArray}
theorem part_snoc (hk : k < s.size) (hb : b ≤ k) {c : UInt8} (ht : (ls s).take (k + 1) = (ls s).take k ++ [c]) : ((ls s).take (k + 1)).drop b = ((ls s).take k).drop b ++ [c] := by
  rw [ht, List.drop_append_of_le_length (by rw [List.length_take, ls_len]; omega)]
theorem CutInv.quote (h : CutInv mark s k b q ps) (hk : k < s.size) (hb : b ≤ k) (e : bt s k = 34) : CutInv mark s (k + 1) b (!q) ps := by
  obtain ⟨c, _, ec, _, tc, dc⟩ := get_ls hk
  have : c = 34 := (byte_eq c 34).1 (by rw [← ec, e]; rfl)
  subst this
  refine ⟨?_⟩
  rw [h.inv, dc, cutQ_quote, part_snoc hk hb tc]
theorem CutInv.esc (h : CutInv mark s k b true ps) (hk : k < s.size) (hb : b ≤ k) (e : bt s k = 92) : CutInv mark s (k + 2) b true ps := by
  obtain ⟨c, _, ec, _, tc, dc⟩ := get_ls hk
  have : c = 92 := (byte_eq c 92).1 (by rw [← ec, e]; rfl)
  subst this
  refine ⟨?_⟩
  by_cases h1 : k + 1 < s.size
  · obtain ⟨d, _, _, _, td, dd⟩ := get_ls h1
    rw [h.inv, dc, dd, cutQ_esc, part_snoc (k := k + 1) h1 (by omega) td, part_snoc hk hb tc, List.append_assoc]
    rfl
  · have e1 : (ls s).drop (k + 1) = [] := List.drop_of_length_le (by rw [ls_len]; omega)
    have e2 : (ls s).drop (k + 2) = [] := List.drop_of_length_le (by rw [ls_len]; omega)
    have e3 : (ls s).take (k + 2) = (ls s).take (k + 1) := by rw [List.take_of_length_le (by rw [ls_len]; omega), List.take_of_length_le (by rw [ls_len]; omega)]
    rw [h.inv, dc, e1, cutQ_last, e2, cutQ_nil, e3, part_snoc hk hb tc]
theorem CutInv.next (h : CutInv mark s k b false ps) (hm : mark ≠ 34) (hk : k < s.size) (hb : b ≤ k) (e : bt s k = (mark.toNat : Int)) : CutInv mark s (k + 1) (k + 1) false (ps ++ [tx (trimT (ls (s.extract b k)))]) := by
  obtain ⟨c, _, ec, _, tc, dc⟩ := get_ls hk
  have : c = mark := (byte_eq c mark).1 (by rw [← ec, e])
  subst this
  refine ⟨?_⟩
  have e1 : ((ls s).take (k + 1)).drop (k + 1) = [] := List.drop_of_length_le (by rw [List.length_take]; omega)
  rw [h.inv, dc, cutQ_mark _ hm, e1, ls_extract, List.drop_take]
  simp
theorem CutInv.else (h : CutInv mark s k b q ps) (hk : k < s.size) (hb : b ≤ k) (h1 : ¬ (q = true ∧ bt s k = 92)) (h2 : bt s k ≠ 34) (h3 : ¬ (bt s k = (mark.toNat : Int) ∧ q = false)) : CutInv mark s (k + 1) b q ps := by
  obtain ⟨c, _, ec, _, tc, dc⟩ := get_ls hk
  refine ⟨?_⟩
  rw [h.inv, dc, cutQ_else mark c q _ _ (fun x => h1 ⟨x.1, by rw [ec, x.2]; rfl⟩) (fun x => h2 (by rw [ec, x]; rfl)) (fun x => h3 ⟨by rw [ec, x.1], x.2⟩), part_snoc hk hb tc]
theorem CutInv.end (h : CutInv mark s k b q ps) (hk : s.size ≤ k) : (cutA mark (ls s)).map tx = ps ++ [tx (trimT (ls (s.extract b s.size)))] := by
  rw [h.inv, List.drop_of_length_le (by rw [ls_len]; exact hk), cutQ_nil, List.take_of_length_le (by rw [ls_len]; exact hk), ls_extract]
  rw [List.take_of_length_le (l := (ls s).drop b) (by rw [List.length_drop, ls_len]; exact Nat.le_refl _)]
  rfl
end
def CutRel (mark : UInt8) (s : ByteArray) (w : World) (v i0 i1 i2 : Value) (wr : World) : Prop :=
  ∃ (k b m : Nat) (q : Bool) (ps : List ByteArray) (base : Option Addr) (cap : Nat), k ≤ s.size + 1 ∧ b ≤ k ∧ b ≤ s.size ∧ m ≤ k ∧ i0 = .int .i64 b ∧ i1 = .bool q ∧ i2 = .int .i64 k ∧ v = .slice base m cap ∧ Hid (m = ps.length) ∧ wr.ownsRow w.heap.size 9 1 (.slice base m cap) m (strsL ps) ∧ Below w.heap.size w wr ∧ Hid (CutInv mark s k b q ps)
set_option maxRecDepth 200000 in
set_option maxHeartbeats 4000000 in
theorem cut_any (s : ByteArray) (mark : UInt8) (n : Int) (hn : Hid (n = (mark.toNat : Int))) (h34 : mark ≠ 34) (hn1 : n ≠ 34) (hn2 : n ≠ 92) (w : World) (hs : s.size ≤ 1099511627776) :
    Calls Tryz.prog 90 #[.string s, .int .u8 n] w fun e w' => ∃ v', e = .returned v' ∧ OwnS w w' v' ((cutA mark (ls s)).map tx) := by
  obtain ⟨i0, hi, hz0, hz1, hz2⟩ := info_parts infoS
  have own0 : w.ownsRow w.heap.size 9 1 (.slice none 0 0) 0 [] := World.ownsRow_nil _ _ _ _
  have bel0 := Below.refl w.heap.size w
  have hg := get_bt s
  go_enter Tryz.func90, Tryz.ntmps90
  go_wp2
  go_loopw [5, 6, 7, 8] (fun v i0 i1 i2 wr => CutRel mark s w v i0 i1 i2 wr) (fun _ _ _ i _ => s.size + 1 - (intOf i).toNat)
  case atStart => exact ⟨0, 0, 0, false, [], none, 0, by omega, by omega, by omega, by omega, rfl, rfl, rfl, rfl, Lib.hid rfl, own0, bel0, Lib.hid (CutInv.zero _ _)⟩
  case round =>
    clear own0 bel0
    obtain ⟨k, b, m, q, ps, base, cap, hk, hbk, hbs, hm, rfl, rfl, rfl, rfl, HM, own, bel, INV⟩ := hrel
    have hN := bel.size
    by_cases hlt : k < s.size
    · have l1 : (k : Int) < (s.size : Int) := by omega
      by_cases q34 : bt s k = 34
      · have I2 := Lib.hid (INV.out.quote hlt hbk q34)
        have g34 : (bt s k == 34) = true := by rw [q34]; rfl
        have g92 : (bt s k == 92) = false := by rw [q34]; rfl
        clear q34 INV
        cases q with
        | true =>
          go_wp2
          go_roundw
          case rel => exact ⟨k + 1, b, m, false, ps, base, cap, by omega, by omega, by omega, by omega, rfl, rfl, by go_num, rfl, HM, own, bel, I2⟩
          case measure => simp [intOf]; omega
        | false =>
          go_wp2
          go_roundw
          case rel => exact ⟨k + 1, b, m, true, ps, base, cap, by omega, by omega, by omega, by omega, rfl, rfl, by go_num, rfl, HM, own, bel, I2⟩
          case measure => simp [intOf]; omega
      have g34 : (bt s k == 34) = false := beq_eq_false_iff_ne.2 q34
      cases q with
      | true =>
        by_cases q92 : bt s k = 92
        · have I2 := Lib.hid (INV.out.esc hlt hbk q92)
          have g92 : (bt s k == 92) = true := by rw [q92]; rfl
          clear q92 q34 INV
          go_wp2
          go_roundw
          case rel => exact ⟨k + 2, b, m, true, ps, base, cap, by omega, by omega, by omega, by omega, rfl, rfl, by go_num, rfl, HM, own, bel, I2⟩
          case measure => simp [intOf]; omega
        · have g92 : (bt s k == 92) = false := beq_eq_false_iff_ne.2 q92
          have I2 := Lib.hid (INV.out.else hlt hbk (fun x => q92 x.2) q34 (fun x => by cases x.2))
          clear q92 q34 INV
          cases hqn : (bt s k == n) with
          | true =>
            go_wp2
            go_roundw
            case rel => exact ⟨k + 1, b, m, true, ps, base, cap, by omega, by omega, by omega, by omega, rfl, rfl, by go_num, rfl, HM, own, bel, I2⟩
            case measure => simp [intOf]; omega
          | false =>
            go_wp2
            go_roundw
            case rel => exact ⟨k + 1, b, m, true, ps, base, cap, by omega, by omega, by omega, by omega, rfl, rfl, by go_num, rfl, HM, own, bel, I2⟩
            case measure => simp [intOf]; omega
      | false =>
        by_cases qn : bt s k = n
        · have I2 := Lib.hid (INV.out.next h34 hlt hbk (by rw [qn, hn.out]))
          have gn : (bt s k == n) = true := by rw [qn]; simp
          have ex : (s.extract b k).size ≤ 1099511627776 := by rw [ByteArray.size_extract]; omega
          have tr := trim_any (s.extract b k)
          have l2 : (b : Int) ≤ (k : Int) := by omega
          have l3 : (k : Int) ≤ (s.size : Int) := by omega
          obtain rfl : n = bt s k := qn.symm
          clear q34 INV gn
          have tr1 := fun w => tr w (by omega)
          clear tr
          generalize hT : tx (trimT (ls (s.extract b k))) = T at tr1
          have HT := Lib.hid hT
          clear hT
          go_wp2_with fail
          refine (tr1 _).mono ?_
          rintro e w2 ⟨rfl, G2⟩
          have own2 := owns_below own G2
          have bel2 := bel.trans (G2.mono hN)
          have hN2 := bel2.size
          clear own bel G2 tr1
          go_upto_region 14 with (at_builtin; refine wpList_append_own _ rfl _ _ 43 rfl w.heap.size 9 i0 (.string ⟨#[]⟩) 1 16 Tryz.underlying43 hi hz0 hz1 hz2 rfl (by decide) _ _ _ rfl (own2.alloc _) ⟨w2.heap.size, 0, none⟩ 1 1 [.string T] rfl ?c0 ?c1 ?c2 ?c3 ?c4 ?c5 ?_)
          case c0 => rfl
          case c1 => exact new_str w2 T
          case c2 => intro u hu; simp at hu; subst hu; rfl
          case c3 => unfold maxLen; omega
          case c4 => omega
          case c5 => simp; omega
          intro v' w4 own4 hgrow _
          have own5 : w4.ownsRow w.heap.size 9 1 v' (m + 1) (strsL (ps ++ [T])) := by
            rw [strsL_snoc]
            exact own4
          have bel5 := (bel2.alloc hN2 (.cells #[.string T] 9)).grown hgrow (by simp; omega) (fun j hj => (own2.lt j hj).1)
          clear own4 own2 hgrow bel2
          obtain ⟨b', c', rfl⟩ := own_shape own5
          rw [HT.out] at I2
          go_wp2
          go_roundw
          case rel => exact ⟨k + 1, k + 1, m + 1, false, ps ++ [T], b', c', by omega, by omega, by omega, by omega, by go_num, rfl, by go_num, rfl, Lib.hid (by rw [List.length_append, ← HM.out]; rfl), own5, bel5, I2⟩
          case measure => simp [intOf]; omega
        · have gn : (bt s k == n) = false := beq_eq_false_iff_ne.2 qn
          have I2 := Lib.hid (INV.out.else hlt hbk (fun x => by cases x.1) q34 (fun x => qn (by rw [x.1, hn.out])))
          clear qn q34 INV
          go_wp2
          go_roundw
          case rel => exact ⟨k + 1, b, m, false, ps, base, cap, by omega, by omega, by omega, by omega, rfl, rfl, by go_num, rfl, HM, own, bel, I2⟩
          case measure => simp [intOf]; omega
    · have l1 : ¬ (k : Int) < (s.size : Int) := by omega
      have E := Lib.hid (INV.out.end (by omega))
      clear INV
      have ex : (s.extract b s.size).size ≤ 1099511627776 := by rw [ByteArray.size_extract]; omega
      have tr1 := fun w => trim_any (s.extract b s.size) w (by omega)
      have l2 : (b : Int) ≤ (s.size : Int) := by omega
      generalize hT : tx (trimT (ls (s.extract b s.size))) = T at tr1
      rw [hT] at E
      clear hT
      go_wp2_with fail
      refine (tr1 _).mono ?_
      rintro e w2 ⟨rfl, G2⟩
      have own2 := owns_below own G2
      have bel2 := bel.trans (G2.mono hN)
      have hN2 := bel2.size
      clear own bel G2 tr1
      go_wp2_with (at_builtin; refine wpList_append_own _ rfl _ _ 43 rfl w.heap.size 9 i0 (.string ⟨#[]⟩) 1 16 Tryz.underlying43 hi hz0 hz1 hz2 rfl (by decide) _ _ _ rfl (own2.alloc _) ⟨w2.heap.size, 0, none⟩ 1 1 [.string T] rfl rfl (new_str w2 T) (by intro u hu; simp at hu; subst hu; rfl) (by unfold maxLen; omega) (by omega) (by simp; omega) ?_; intro v' w4 own4 hgrow hcb)
      have own5 : w4.ownsRow w.heap.size 9 1 v' (m + 1) (strsL (ps ++ [T])) := by
        rw [strsL_snoc]
        exact own4
      have bel5 := (bel2.alloc hN2 (.cells #[.string T] 9)).grown hgrow (by simp; omega) (fun j hj => (own2.lt j hj).1)
      clear own4 own2 hgrow bel2
      have hm2 : m + 1 = (ps ++ [T]).length := by rw [List.length_append, ← HM.out]; rfl
      rw [hm2] at own5
      go_ret
      exact ⟨_, rfl, by rw [E.out]; exact own5, bel5⟩
end Go.Proofs.YtdldoklkenhopaaGreatDoor.Fi
end

section
namespace Go.Proofs.YtdldoklkenhopaaGreatDoor.Fi
open Go.RowKit Go.PlainAid
open Hx
set_option linter.unusedVariables false
set_option maxRecDepth 20000
set_option linter.unusedSimpArgs false

/-- fields that are few and short -/
structure Short (xs : List Fd) : Prop where
  len : xs.length ≤ 1000
  n : ∀ x ∈ xs, x.n.size ≤ 100000
  v : ∀ x ∈ xs, x.v.size ≤ 100000
theorem Short.reach {xs : List Fd} (h : Short xs) : Reach xs := fun x hx => by have := h.n x hx; have := h.v x hx; omega
/-- the elements of the first k values -/
def sumE (vs : List ByteArray) (k : Nat) : List ByteArray := ((vs.take k).map elsF).flatten
theorem elsTo {vs : List ByteArray} {k : Nat} {s : ByteArray} (h : vs[k]? = some s) : sumE vs (k + 1) = sumE vs k ++ elsF s := by
  unfold sumE
  rw [List.take_add_one, h]
  simp
theorem take_snoc' {ss : List ByteArray} {j : Nat} {p : ByteArray} (h : ss[j]? = some p) : ss.take (j + 1) = ss.take j ++ [p] := by
  rw [List.take_add_one, h]; rfl
theorem own_weaken {w : World} {B C e sz n : Nat} {v : Value} {xs : List Value} (h : w.ownsRow B e sz v n xs) (hC : C ≤ B) : w.ownsRow C e sz v n xs := by
  refine ⟨h.1, ?_⟩
  rcases h.2 with hn | ⟨g, cap, cur, hv, hb, r⟩
  · exact .inl hn
  · exact .inr ⟨g, cap, cur, hv, Nat.le_trans hC hb, r⟩
/-- two rows of the call's own in blocks of their own -/
def Apart (u v : Value) : Prop := u.ownBlock = none ∨ u.ownBlock ≠ v.ownBlock
theorem apart_new {w : World} {B e sz n e' sz' n' H : Nat} {u v : Value} {xs ys : List Value} (hu : w.ownsRow B e sz u n xs) (hv : w.ownsRow H e' sz' v n' ys) (hlt : ∀ b, u.ownBlock = some b → b < H) : Apart u v := by
  cases hq : u.ownBlock with
  | none => exact .inl hq
  | some b =>
    refine .inr fun e => ?_
    rw [hq] at e
    have := hlt b hq
    have := (hv.lt b e.symm).1
    omega
def ElRel (w : World) (E : List ByteArray) (v : Value) (wr : World) (m : Nat) : Prop :=
  ∃ (base : Option Addr) (cap : Nat), v = .slice base m cap ∧ Hid (m = E.length) ∧ wr.ownsRow w.heap.size 9 1 (.slice base m cap) m (strsL E) ∧ Below w.heap.size w wr
set_option maxRecDepth 100000 in
set_option maxHeartbeats 4000000 in
theorem elements_any {w : World} {v : Value} {xs : List Fd} (name : ByteArray) (hv : FdsAt w v xs) (hz : name.size ≤ 100000) (hs : Short xs) :
    Calls Tryz.prog 76 #[v, .string name] w fun e w' => ∃ v', e = .returned v' ∧ OwnS w w' v' (elemsF (ls name) xs) := by
  have r1 := valuesOf_any name hv (by have := hs.len; omega) (by omega) hs.reach
  have nl := valsF_le (ls name) xs
  have hl := hs.len
  have HB : Hid (∀ s ∈ valsF (ls name) xs, s.size ≤ 100000) := Lib.hid fun s h => by
    obtain ⟨x, hx, rfl⟩ := valsF_mem h
    exact hs.v x hx
  have hE : elemsF (ls name) xs = ((valsF (ls name) xs).map elsF).flatten := rfl
  rw [hE]
  obtain ⟨i0, hi, hz0, hz1, hz2⟩ := info_parts infoS
  obtain ⟨base0, cap0, rfl, _, _⟩ := hv.is
  clear hv hs hE
  generalize valsF (ls name) xs = vs at r1 nl HB ⊢
  obtain ⟨n, hn⟩ : ∃ n, n = vs.length := ⟨_, rfl⟩
  rw [← hn] at nl
  have HN := Lib.hid hn
  clear hn
  go_enter Tryz.func76, Tryz.ntmps76
  go_wp2_with fail
  refine r1.mono ?_
  rintro e w1 ⟨v1, rfl, own1, bel1⟩
  clear r1
  rw [← HN.out] at own1
  obtain ⟨b1, c1, rfl⟩ := own_shape own1
  have V1 : Hid (StrsAt w1 (.slice b1 n c1) vs) := Lib.hid (by rw [HN.out] at own1 ⊢; exact owns_strs own1)
  clear own1
  have own0 : w1.ownsRow w1.heap.size 9 1 (.slice none 0 0) 0 [] := World.ownsRow_nil _ _ _ _
  have BEL1 := Lib.hid bel1
  clear bel1
  go_wp2
  go_loopw [5, 14] (fun v i wr => ∃ (k m : Nat), k ≤ n ∧ m ≤ k * 100001 ∧ i = .int .i64 k ∧ ElRel w1 (sumE vs k) v wr m) (fun _ i _ => n - (intOf i).toNat)
  case atStart => exact ⟨0, 0, Nat.zero_le _, Nat.zero_le _, rfl, ⟨none, 0, rfl, Lib.hid rfl, own0, Below.refl _ _⟩⟩
  case round =>
    clear own0
    obtain ⟨k, m, hk, hm, rfl, ⟨base, cap, rfl, HM, own, bel⟩⟩ := hrel
    by_cases hlt : k < n
    · obtain ⟨s, hs⟩ : ∃ s, vs[k]? = some s := ⟨vs[k]'(by have := HN.out; omega), List.getElem?_eq_getElem _⟩
      have hsz := HB.out s (List.mem_of_getElem? hs)
      obtain ⟨a, rfl, ha, hcell⟩ := (V1.out.below bel).at hs
      have ET := Lib.hid (elsTo hs)
      have l1 : (k : Int) < (n : Int) := by omega
      have ct := cut_any s 44 44 (Lib.hid rfl) (by decide) (by decide) (by decide) wr (by omega)
      have eb := elsF_bound s
      have hel : elsF s = fillF ((cutA 44 (ls s)).map tx) := rfl
      rw [hel] at eb
      have EL := Lib.hid hel
      have cb := cutA_bound 44 (ls s)
      rw [ls_len] at cb
      have cl : ((cutA 44 (ls s)).map tx).length ≤ s.size + 1 := by rw [List.length_map]; exact cb.1
      clear hs hel cb
      generalize (cutA 44 (ls s)).map tx = ps at ct eb EL cl
      go_wp2_with fail
      refine ct.mono ?_
      rintro e w2 ⟨v2, rfl, own2, G2⟩
      have fl := filled_any (w := w2) (v := v2) (ss := ps) (owns_strs own2) (by omega)
      have own3 := owns_below own G2
      have lt3 : ∀ b, (Value.slice base m cap).ownBlock = some b → b < w2.heap.size := fun b hb => (own3.lt b hb).2
      have bel3 := bel.trans (G2.mono bel.size)
      clear ct own2 own bel G2 hcell
      go_wp2_with fail
      refine fl.mono ?_
      rintro e w3 ⟨v3, rfl, own4, G3⟩
      have own5 := owns_below own3 G3
      have bel5 := bel3.trans (G3.mono bel3.size)
      clear fl own3 bel3 G3
      obtain ⟨b3, c3, rfl⟩ := own_shape own4
      generalize fillF ps = qs at eb EL own4
      obtain ⟨p, hp⟩ : ∃ p, p = qs.length := ⟨_, rfl⟩
      rw [← hp] at own4 eb
      have AP0 : Apart (.slice b3 p c3) (.slice base m cap) := by
        cases hq : (Value.slice b3 p c3).ownBlock with
        | none => exact .inl hq
        | some b =>
          refine .inr fun e => ?_
          rw [hq] at e
          have h1 := lt3 b e.symm
          have h2 := (own4.lt b hq).1
          omega
      have HP := Lib.hid hp
      have HEB := Lib.hid eb.2
      have pb := eb.1
      rw [← hp]
      clear hp eb lt3
      go_wp2
      go_loopw [5, 22] (fun v i wq => ∃ (j : Nat) (base' : Option Addr) (cap' : Nat), j ≤ p ∧ i = .int .i64 j ∧ v = .slice base' (m + j) cap' ∧ wq.ownsRow w1.heap.size 9 1 (.slice base' (m + j) cap') (m + j) (strsL (sumE vs k ++ qs.take j)) ∧ Below w1.heap.size w1 wq ∧ wq.ownsRow w2.heap.size 9 1 (.slice b3 p c3) p (strsL qs) ∧ Apart (.slice b3 p c3) (.slice base' (m + j) cap')) (fun _ i _ => p - (intOf i).toNat)
      case atStart => exact ⟨0, base, cap, Nat.zero_le _, rfl, rfl, by simpa using own5, bel5, own4, AP0⟩
      case round =>
        clear own5 bel5 own4 AP0
        obtain ⟨j, base', cap', hj, rfl, rfl, own, bel, ownq, AP⟩ := hrel
        by_cases hjt : j < p
        · obtain ⟨q, hq⟩ : ∃ q, qs[j]? = some q := ⟨qs[j]'(by have := HP.out; omega), List.getElem?_eq_getElem _⟩
          have V3 : StrsAt wr (.slice b3 p c3) qs := by
            have := HP.out
            rw [this] at ownq ⊢
            exact owns_strs ownq
          obtain ⟨a2, rfl, ha2, hcell2⟩ := V3.at hq
          have hqs := HEB.out q (List.mem_of_getElem? hq)
          have TK := Lib.hid (take_snoc' hq)
          have l2 : (j : Int) < (p : Int) := by omega
          have cl2 := fun w => clone_any q w (by omega)
          clear hq V3
          go_wp2_with fail
          refine (cl2 _).mono ?_
          rintro e w5 ⟨rfl, G5⟩
          have own6 := owns_below own G5
          have ownq6 := owns_below ownq G5
          have bel8 := bel.trans (G5.mono bel.size)
          have hN := bel8.size
          clear own bel G5 cl2 hcell2 ownq
          go_upto_region 9 with (at_builtin; refine wpList_append_lies _ rfl _ _ 43 rfl w1.heap.size 9 i0 (.string ⟨#[]⟩) 1 16 Tryz.underlying43 hi hz0 hz1 hz2 rfl (by decide) _ _ _ rfl (own6.alloc _) ⟨w5.heap.size, 0, none⟩ 1 1 [.string q] rfl ?c0 ?c1 ?c2 ?c6 ?c3 ?c4 ?c5 (w5.heap.size + 1) (by simp) ?_)
          case c0 => rfl
          case c1 => exact new_str w5 q
          case c2 => intro u hu; simp at hu; subst hu; rfl
          case c6 => omega
          case c3 => unfold maxLen; omega
          case c4 => omega
          case c5 => simp; omega
          intro g cap6 w6 own7 hgrow hwhere _
          have own8 : w6.ownsRow w1.heap.size 9 1 (.slice (some ⟨g, 0, none⟩) (m + j + 1) cap6) (m + j + 1) (strsL (sumE vs k ++ qs.take (j + 1))) := by
            rw [TK.out, ← List.append_assoc, strsL_snoc]
            exact own7
          have bel9 := (bel8.alloc hN (.cells #[.string q] 9)).grown hgrow (by simp; omega) (fun j hj => (own6.lt j hj).1)
          have ownq7 := (ownq6.alloc (.cells #[.string q] 9)).kept hgrow AP
          have AP2 : Apart (.slice (some a2) p c3) (.slice (some ⟨g, 0, none⟩) (m + j + 1) cap6) := by
            rcases hwhere with e | e
            · rcases AP with h | h
              · exact .inl h
              · refine .inr fun e2 => h ?_
                rw [e2, e]; rfl
            · cases hq : (Value.slice (some a2) p c3).ownBlock with
              | none => exact .inl hq
              | some b =>
                refine .inr fun e2 => ?_
                have h2 := (ownq6.lt b hq).2
                rw [hq] at e2
                have : b = g := Option.some.inj e2
                omega
          clear own7 own6 hgrow bel8 ownq6 AP hwhere
          go_wp2
          go_roundw
          case rel => exact ⟨j + 1, _, cap6, by omega, by go_num, rfl, own8, bel9, ownq7, AP2⟩
          case measure => simp [intOf]; omega
        · obtain rfl : j = p := by omega
          have l2 : ¬ (j : Int) < (j : Int) := by omega
          have TK := Lib.hid (show qs.take j = qs from List.take_of_length_le (by have := HP.out; omega))
          go_wp2
          go_roundw
          case rel => exact ⟨k + 1, m + j, by omega, by omega, by go_num, ⟨base', cap', rfl, Lib.hid (by rw [ET.out, EL.out, List.length_append, ← HM.out, ← HP.out]), by rw [ET.out, EL.out]; rw [TK.out] at own; exact own, bel⟩⟩
          case measure => simp [intOf]; omega
    · have l1 : ¬ (k : Int) < (n : Int) := by omega
      have E := Lib.hid (show sumE vs k = (vs.map elsF).flatten by unfold sumE; rw [List.take_of_length_le (by have := HN.out; omega)])
      go_wp2
      go_ret
      rw [E.out] at own HM
      have hm2 := HM.out
      have own2 := own_weaken own BEL1.out.size
      rw [hm2] at own2
      exact ⟨_, by rw [hm2]; rfl, own2, BEL1.out.trans (bel.mono BEL1.out.size)⟩
end Go.Proofs.YtdldoklkenhopaaGreatDoor.Fi
end

section
namespace Go.Proofs.YtdldoklkenhopaaGreatDoor.Fi
open Go.RowKit Go.PlainAid
open Hx
set_option linter.unusedVariables false
set_option maxRecDepth 20000
set_option linter.unusedSimpArgs false

def HasTo (word : List UInt8) (ss : List ByteArray) (k : Nat) : Prop := hasF word (ss.take k) = false
theorem HasTo.succ {word : List UInt8} {ss : List ByteArray} {k : Nat} {s : ByteArray} (h : HasTo word ss k) (hs : ss[k]? = some s) (hn : sameL (ls s) word = false) : HasTo word ss (k + 1) := by
  unfold HasTo hasF at h ⊢
  rw [List.take_add_one, hs, List.any_append, h]
  simp [hn]
theorem has_yes {word : List UInt8} {ss : List ByteArray} {k : Nat} {s : ByteArray} (hs : ss[k]? = some s) (hn : sameL (ls s) word = true) : hasF word ss = true := by
  unfold hasF
  rw [List.any_eq_true]
  exact ⟨s, List.mem_of_getElem? hs, hn⟩
set_option maxHeartbeats 1000000 in
theorem has_any {w : World} {v : Value} {ss : List ByteArray} (word : ByteArray) (hv : StrsAt w v ss) (hl : ss.length ≤ 1099511627776) (hz : word.size ≤ 100000) (hs : ∀ s ∈ ss, s.size ≤ 140737488355328) :
    Calls Tryz.prog 77 #[.string word, v] w fun e w' => e = .returned (.bool (hasF (ls word) ss)) ∧ Below w.heap.size w w' := by
  obtain ⟨base, cap, rfl, _, _⟩ := hv.is
  have HV := Lib.hid hv
  have HS := Lib.hid hs
  clear hv hs
  obtain ⟨n, hn⟩ : ∃ n, n = ss.length := ⟨_, rfl⟩
  rw [← hn] at HV hl ⊢
  have HN := Lib.hid hn
  clear hn
  generalize hr : hasF (ls word) ss = r
  have HR := Lib.hid hr
  clear hr
  go_enter Tryz.func77, Tryz.ntmps77
  go_wp2
  go_loopw [9] (fun i wr => ∃ k : Nat, k ≤ n ∧ i = .int .i64 k ∧ Hid (HasTo (ls word) ss k) ∧ Below w.heap.size w wr) (fun i _ => n - (intOf i).toNat)
  case atStart => exact ⟨0, Nat.zero_le _, rfl, Lib.hid (by unfold HasTo; rfl), Below.refl _ _⟩
  case round =>
    obtain ⟨k, hk, rfl, HT, bel⟩ := hrel
    by_cases hlt : k < n
    · obtain ⟨s, hs⟩ : ∃ s, ss[k]? = some s := ⟨ss[k]'(by have := HN.out; omega), List.getElem?_eq_getElem _⟩
      obtain ⟨a, rfl, ha, hcell⟩ := (HV.out.below bel).at hs
      have hsz := HS.out s (List.mem_of_getElem? hs)
      have l1 : (k : Int) < (n : Int) := by omega
      have sm := same_any s word wr (by omega) (by omega)
      cases hq : sameL (ls s) (ls word) with
      | true =>
        have e : r = true := by rw [← HR.out]; exact has_yes hs hq
        subst e
        rw [hq] at sm
        clear hs hq
        go_wp2_with fail
        refine sm.mono ?_
        rintro e w2 ⟨rfl, G⟩
        clear sm
        go_wp2
        go_ret
        exact ⟨rfl, bel.trans (G.mono bel.size)⟩
      | false =>
        have H2 := Lib.hid (HT.out.succ hs hq)
        rw [hq] at sm
        clear hs hq
        go_wp2_with fail
        refine sm.mono ?_
        rintro e w2 ⟨rfl, G⟩
        have bel2 := bel.trans (G.mono bel.size)
        clear sm bel G
        go_wp2
        go_roundw
        case rel => exact ⟨k + 1, by omega, by go_num, H2, bel2⟩
        case measure => simp [intOf]; omega
    · have l1 : ¬ (k : Int) < (n : Int) := by omega
      have e : r = false := by
        rw [← HR.out]
        have := HT.out
        unfold HasTo at this
        rwa [List.take_of_length_le (by have := HN.out; omega)] at this
      subst e
      go_wp2
      go_ret
      exact ⟨rfl, bel⟩
theorem elemsF_bound {name : List UInt8} {xs : List Fd} (hs : Short xs) : (elemsF name xs).length ≤ 1000 * 100001 ∧ ∀ s ∈ elemsF name xs, s.size ≤ 100000 := by
  unfold elemsF
  have hl := Nat.le_trans (valsF_le name xs) hs.len
  have hv : ∀ s ∈ valsF name xs, s.size ≤ 100000 := fun s h => by
    obtain ⟨x, hx, rfl⟩ := valsF_mem h
    exact hs.v x hx
  generalize valsF name xs = vs at hl hv
  constructor
  · have : ∀ l : List ByteArray, (∀ s ∈ l, s.size ≤ 100000) → ((l.map elsF).flatten).length ≤ l.length * 100001 := by
      intro l
      induction l with
      | nil => intro _; simp
      | cons s l ih =>
        intro h
        have h1 := (elsF_bound s).1
        have h2 := h s (by simp)
        have h3 := ih (fun x hx => h x (by simp [hx]))
        simp only [List.map_cons, List.flatten_cons, List.length_append, List.length_cons]
        omega
    exact Nat.le_trans (this vs hv) (Nat.mul_le_mul_right _ hl)
  · intro s h
    obtain ⟨l, hl, hs⟩ := List.mem_flatten.1 h
    obtain ⟨t, ht, rfl⟩ := List.mem_map.1 hl
    have h1 := (elsF_bound t).2 s hs
    have h2 := hv t ht
    omega
theorem closes_any {w : World} {v : Value} {xs : List Fd} (minor : Int) (h2 : -9223372036854775808 ≤ minor) (h3 : minor ≤ 9223372036854775807) (hv : FdsAt w v xs) (hs : Short xs) :
    Calls Tryz.prog 60 #[v, .int .i64 minor] w fun e w' => e = .returned (.bool (closesF xs minor)) ∧ Below w.heap.size w w' := by
  have r1 : Calls Tryz.prog 76 #[v, .string ⟨#[67, 111, 110, 110, 101, 99, 116, 105, 111, 110]⟩] w fun e w' => ∃ v', e = .returned v' ∧ OwnS w w' v' (elemsF (ls nCon) xs) := elements_any nCon hv (by decide) hs
  have eb := elemsF_bound (name := ls nCon) hs
  obtain ⟨base, cap, rfl, _, _⟩ := hv.is
  clear hv hs
  unfold closesF
  generalize elemsF (ls nCon) xs = es at r1 eb ⊢
  have HB := Lib.hid eb.2
  have hl := eb.1
  clear eb
  by_cases c1 : hasF (ls wClose) es = true
  · rw [if_pos c1]
    have C1 := Lib.hid c1
    clear c1
    go_enter Tryz.func60, Tryz.ntmps60
    go_wp2_with fail
    refine r1.mono ?_
    rintro e w1 ⟨v1, rfl, own, bel⟩
    have q1 : Calls Tryz.prog 77 #[.string ⟨#[99, 108, 111, 115, 101]⟩, v1] w1 fun e w' => e = .returned (.bool (hasF (ls wClose) es)) ∧ Below w1.heap.size w1 w' := has_any wClose (owns_strs own) (by omega) (by decide) (fun s h => by have := HB.out s h; omega)
    rw [C1.out] at q1
    clear r1 own
    go_wp2_with fail
    refine q1.mono ?_
    rintro e w2 ⟨rfl, G⟩
    clear q1
    go_wp2
    go_ret
    exact ⟨rfl, bel.trans (G.mono bel.size)⟩
  rw [if_neg c1]
  have c1' : hasF (ls wClose) es = false := by simpa using c1
  have C1 := Lib.hid c1'
  clear c1 c1'
  by_cases c2 : hasF (ls wKeep) es = true
  · rw [if_pos c2]
    have C2 := Lib.hid c2
    clear c2
    go_enter Tryz.func60, Tryz.ntmps60
    go_wp2_with fail
    refine r1.mono ?_
    rintro e w1 ⟨v1, rfl, own, bel⟩
    have q1 : Calls Tryz.prog 77 #[.string ⟨#[99, 108, 111, 115, 101]⟩, v1] w1 fun e w' => e = .returned (.bool (hasF (ls wClose) es)) ∧ Below w1.heap.size w1 w' := has_any wClose (owns_strs own) (by omega) (by decide) (fun s h => by have := HB.out s h; omega)
    rw [C1.out] at q1
    have V := owns_strs own
    clear r1 own
    go_wp2_with fail
    refine q1.mono ?_
    rintro e w2 ⟨rfl, G⟩
    have bel2 := bel.trans (G.mono bel.size)
    have q2 : Calls Tryz.prog 77 #[.string ⟨#[107, 101, 101, 112, 45, 97, 108, 105, 118, 101]⟩, v1] w2 fun e w' => e = .returned (.bool (hasF (ls wKeep) es)) ∧ Below w2.heap.size w2 w' := has_any wKeep (V.below G) (by omega) (by decide) (fun s h => by have := HB.out s h; omega)
    rw [C2.out] at q2
    clear q1 G V bel
    go_wp2_with fail
    refine q2.mono ?_
    rintro e w3 ⟨rfl, G⟩
    clear q2
    go_wp2
    go_ret
    exact ⟨rfl, bel2.trans (G.mono bel2.size)⟩
  · rw [if_neg c2]
    have c2' : hasF (ls wKeep) es = false := by simpa using c2
    have C2 := Lib.hid c2'
    clear c2 c2'
    go_enter Tryz.func60, Tryz.ntmps60
    go_wp2_with fail
    refine r1.mono ?_
    rintro e w1 ⟨v1, rfl, own, bel⟩
    have q1 : Calls Tryz.prog 77 #[.string ⟨#[99, 108, 111, 115, 101]⟩, v1] w1 fun e w' => e = .returned (.bool (hasF (ls wClose) es)) ∧ Below w1.heap.size w1 w' := has_any wClose (owns_strs own) (by omega) (by decide) (fun s h => by have := HB.out s h; omega)
    rw [C1.out] at q1
    have V := owns_strs own
    clear r1 own
    go_wp2_with fail
    refine q1.mono ?_
    rintro e w2 ⟨rfl, G⟩
    have bel2 := bel.trans (G.mono bel.size)
    have q2 : Calls Tryz.prog 77 #[.string ⟨#[107, 101, 101, 112, 45, 97, 108, 105, 118, 101]⟩, v1] w2 fun e w' => e = .returned (.bool (hasF (ls wKeep) es)) ∧ Below w2.heap.size w2 w' := has_any wKeep (V.below G) (by omega) (by decide) (fun s h => by have := HB.out s h; omega)
    rw [C2.out] at q2
    clear q1 G V bel
    go_wp2_with fail
    refine q2.mono ?_
    rintro e w3 ⟨rfl, G⟩
    clear q2
    go_wp2
    go_ret
    exact ⟨rfl, bel2.trans (G.mono bel2.size)⟩

/-! ### Frame -/
theorem undec_any (s : ByteArray) (m : Int) (w : World) (hs : s.size ≤ 4611686018427387904) (h2 : -9223372036854775808 ≤ m) (h3 : m ≤ 9223372036854775807) :
    Calls Tryz.prog 88 #[.string s, .int .i64 m] w fun e w' => e = .returned (.tuple #[.int .i64 (undN s m), .int .i64 (undE s m)]) ∧ w = w' := by
  unfold undN undE
  by_cases h : DecForm s
  · rw [if_pos h, if_pos h]
    by_cases c : s.size ≤ 19
    · rw [if_pos c, if_pos c]; exact undec_short s m w h c h2 h3
    · rw [if_neg c, if_neg c]; exact undec_long s m w hs h (by omega)
  · rw [if_neg h, if_neg h]; exact undec_form s m w hs h
theorem lengthOf_any (s : ByteArray) (m : Int) (w : World) (hs : s.size ≤ 4611686018427387904) (h2 : -9223372036854775808 ≤ m) (h3 : m ≤ 9223372036854775807) :
    Calls Tryz.prog 75 #[.string s, .int .i64 m] w fun e w' => e = .returned (.tuple #[.int .i64 (lenN s m), .int .i64 (lenE s m)]) ∧ w = w' := by
  have r := undec_any s m w hs h2 h3
  unfold lenN lenE
  generalize undN s m = N at *
  generalize undE s m = E at *
  by_cases c : E = 14
  · rw [if_pos c, if_pos c]
    subst c
    go_enter Tryz.func75, Tryz.ntmps75
    go_wp2_with fail
    refine r.mono ?_
    rintro e w2 ⟨rfl, rfl⟩
    clear r
    go_wp2
    go_ret2
    exact ⟨rfl, rfl⟩
  · rw [if_neg c, if_neg c]
    have g : (E == 14) = false := beq_eq_false_iff_ne.2 c
    clear c
    go_enter Tryz.func75, Tryz.ntmps75
    go_wp2_with fail
    refine r.mono ?_
    rintro e w2 ⟨rfl, rfl⟩
    clear r
    go_wp2
    go_ret2
    exact ⟨rfl, rfl⟩
set_option maxHeartbeats 1000000 in
theorem frame_any {w : World} {v : Value} {xs : List Fd} (m : Int) (hv : FdsAt w v xs) (hl : xs.length ≤ 1000000) (hr : Reach xs) (h2 : -9223372036854775808 ≤ m) (h3 : m ≤ 9223372036854775807) :
    Calls Tryz.prog 58 #[v, .int .i64 m] w fun e w' => e = .returned (.tuple #[.int .i64 (frF xs m).n, .bool (frF xs m).c, .int .i64 (frF xs m).e]) ∧ Below w.heap.size w w' := by
  have r1 : Calls Tryz.prog 5 #[v, .string ⟨#[84, 114, 97, 110, 115, 102, 101, 114, 45, 69, 110, 99, 111, 100, 105, 110, 103]⟩] w fun e w' => e = .returned (.tuple #[.string (getS (ls nTE) xs), .int .i64 (getN (ls nTE) xs)]) ∧ Below w.heap.size w w' := get_any nTE hv hl (by decide) hr
  have r2 : ∀ w2, Below w.heap.size w w2 → Calls Tryz.prog 5 #[v, .string ⟨#[67, 111, 110, 116, 101, 110, 116, 45, 76, 101, 110, 103, 116, 104]⟩] w2 fun e w' => e = .returned (.tuple #[.string (getS (ls nCL) xs), .int .i64 (getN (ls nCL) xs)]) ∧ Below w2.heap.size w2 w' := fun w2 hb => get_any nCL (hv.below hb) hl (by decide) hr
  have z1 := getS_le (name := ls nTE) hr
  have z2 := getS_le (name := ls nCL) hr
  have n1 : getN (ls nTE) xs ≤ 1000000 := Nat.le_trans (valsF_le _ _) hl
  have n2 : getN (ls nCL) xs ≤ 1000000 := Nat.le_trans (valsF_le _ _) hl
  obtain ⟨base, cap, rfl, _, _⟩ := hv.is
  clear hv hr hl
  unfold frF
  have lo := fun w => lengthOf_any (getS (ls nCL) xs) m w (by omega) h2 h3
  have sm : ∀ w, Calls Tryz.prog 23 #[.string (getS (ls nTE) xs), .string ⟨#[99, 104, 117, 110, 107, 101, 100]⟩] w fun e w' => e = .returned (.bool (sameL (ls (getS (ls nTE) xs)) (ls wChunked))) ∧ Below w.heap.size w w' := fun w => same_any (getS (ls nTE) xs) wChunked w (by omega) (by decide)
  generalize getS (ls nTE) xs = s1 at *
  generalize getS (ls nCL) xs = s2 at *
  generalize getN (ls nTE) xs = t at *
  generalize getN (ls nCL) xs = k at *
  generalize lenN s2 m = LN at *
  generalize lenE s2 m = LE at *
  generalize sameL (ls s1) (ls wChunked) = sc at *
  by_cases c0 : t = 0 ∧ k = 0
  · rw [if_pos c0]
    obtain ⟨rfl, rfl⟩ := c0
    go_enter Tryz.func58, Tryz.ntmps58
    go_wp2_with fail
    refine r1.mono ?_
    rintro e w1 ⟨rfl, G⟩
    clear r1
    go_wp2_with fail
    refine (r2 _ G).mono ?_
    rintro e w2 ⟨rfl, G2⟩
    clear r2
    go_wp2
    go_ret3
    exact ⟨rfl, G.trans (G2.mono G.size)⟩
  rw [if_neg c0]
  have hb : ((t : Int) == 0) = false ∨ (((t : Int) == 0) = true ∧ ((k : Int) == 0) = false) := by
    by_cases h : t = 0
    · exact .inr ⟨by rw [h]; rfl, by rw [beq_eq_false_iff_ne]; omega⟩
    · exact .inl (by rw [beq_eq_false_iff_ne]; omega)
  by_cases c1 : 1 < t + k
  · rw [if_pos c1]
    have g1 : (1 : Int) < (t : Int) + (k : Int) := by omega
    clear c0 c1
    rcases hb with b1 | ⟨b1, b2⟩
    all_goals
      go_enter Tryz.func58, Tryz.ntmps58
      go_wp2_with fail
      refine r1.mono ?_
      rintro e w1 ⟨rfl, G⟩
      clear r1
      go_wp2_with fail
      refine (r2 _ G).mono ?_
      rintro e w2 ⟨rfl, G2⟩
      clear r2
      go_wp2
      go_ret3
      exact ⟨rfl, G.trans (G2.mono G.size)⟩
  rw [if_neg c1]
  have g1 : ¬ (1 : Int) < (t : Int) + (k : Int) := by omega
  by_cases c2 : k = 1
  · rw [if_pos c2]
    obtain rfl : t = 0 := by omega
    subst c2
    clear hb g1 c0 c1
    go_enter Tryz.func58, Tryz.ntmps58
    go_wp2_with fail
    refine r1.mono ?_
    rintro e w1 ⟨rfl, G⟩
    clear r1
    go_wp2_with fail
    refine (r2 _ G).mono ?_
    rintro e w2 ⟨rfl, G2⟩
    clear r2
    go_wp2_with fail
    refine (lo _).mono ?_
    rintro e w3 ⟨rfl, rfl⟩
    clear lo
    go_wp2
    go_ret3
    exact ⟨rfl, G.trans (G2.mono G.size)⟩
  rw [if_neg c2]
  obtain ⟨rfl, rfl⟩ : t = 1 ∧ k = 0 := by omega
  clear hb g1 c0 c1 c2
  cases sc with
  | true =>
    rw [if_pos rfl]
    go_enter Tryz.func58, Tryz.ntmps58
    go_wp2_with fail
    refine r1.mono ?_
    rintro e w1 ⟨rfl, G⟩
    clear r1
    go_wp2_with fail
    refine (r2 _ G).mono ?_
    rintro e w2 ⟨rfl, G2⟩
    replace G := G.trans (G2.mono G.size)
    clear r2 G2
    go_wp2_with fail
    refine (sm _).mono ?_
    rintro e w3 ⟨rfl, G2⟩
    clear sm
    go_wp2
    go_ret3
    exact ⟨rfl, G.trans (G2.mono G.size)⟩
  | false =>
    rw [if_neg (by simp)]
    go_enter Tryz.func58, Tryz.ntmps58
    go_wp2_with fail
    refine r1.mono ?_
    rintro e w1 ⟨rfl, G⟩
    clear r1
    go_wp2_with fail
    refine (r2 _ G).mono ?_
    rintro e w2 ⟨rfl, G2⟩
    replace G := G.trans (G2.mono G.size)
    clear r2 G2
    go_wp2_with fail
    refine (sm _).mono ?_
    rintro e w3 ⟨rfl, G2⟩
    clear sm
    go_wp2
    go_ret3
    exact ⟨rfl, G.trans (G2.mono G.size)⟩
end Go.Proofs.YtdldoklkenhopaaGreatDoor.Fi
end

section
namespace Go.Proofs.YtdldoklkenhopaaGreatDoor.Fi
open Go.RowKit Go.PlainAid
open Hx
set_option linter.unusedVariables false
set_option maxRecDepth 20000
set_option linter.unusedSimpArgs false

/-! ### rows of bytes that came of a text -/
/-- block B holds the bytes l, which may be written -/
structure RowB (w : World) (B : Nat) (l : List UInt8) : Prop where
  cell : ∀ (j : Nat) (x : UInt8), l[j]? = some x → w.cell? ⟨B, j, none⟩ = some (.int .u8 (x.toNat : Int)) ∧ w.frozen? ⟨B, j, none⟩ = false
theorem RowB.old {w w' : World} {B : Nat} {l : List UInt8} (h : RowB w B l) (hw : w'.heap[B]? = w.heap[B]?) : RowB w' B l :=
  ⟨fun j x hx => by rw [World.cell?_of_block (w := w) hw, World.frozen?_of_block (w := w) hw]; exact h.cell j x hx⟩
theorem RowB.below {w w' : World} {B N : Nat} {l : List UInt8} (h : RowB w B l) (hb : Below N w w') (hB : B < N) : RowB w' B l := h.old (hb.block B hB)
theorem cell_ne {w : World} {B j i : Nat} {u v : Value} (h : j ≠ i) (hc : w.cell? ⟨B, j, none⟩ = some u) : (w.setCell ⟨B, i, none⟩ v).cell? ⟨B, j, none⟩ = some u := by
  rw [World.cell?_setCell_other _ _ _ _ (by intro e; injection e; omega)]; exact hc
theorem RowB.set {w : World} {B : Nat} {l : List UInt8} (h : RowB w B l) (i : Nat) (v : UInt8) (hi : i < l.length) : RowB (w.setCell ⟨B, i, none⟩ (.int .u8 (v.toNat : Int))) B (l.set i v) := by
  refine ⟨fun j x hx => ?_⟩
  rw [World.frozen?_setCell]
  by_cases e : j = i
  · subst e
    rw [List.getElem?_set_self hi] at hx
    obtain rfl : v = x := by simpa using hx
    have c := h.cell j l[j] (List.getElem?_eq_getElem hi)
    exact ⟨World.cell?_setCell_same _ _ _ c.1, c.2⟩
  · rw [List.getElem?_set_ne (by omega)] at hx
    exact ⟨cell_ne e (h.cell j x hx).1, (h.cell j x hx).2⟩
theorem RowB.conv {w : World} {B cap : Nat} {l : List UInt8} (h : RowB w B l) {n : Nat} (hn : l.length = n) : (convert 49 9 (.slice (some ⟨B, 0, none⟩) n cap)).run Tryz.prog w = .ok (.string (tx l)) w := by
  subst hn
  exact run_convert_bytes_back (P := Tryz.prog) w 49 9 5 ⟨B, 0, none⟩ cap l Tryz.underlying49 Tryz.underlying5 Tryz.underlying9 (fun j hj => by
    rw [add_at, Nat.zero_add]
    exact (h.cell j l[j] (List.getElem?_eq_getElem hj)).1)
theorem bytes_row (w : World) (s : ByteArray) : ∃ cap X, (convert 9 49 (.string s)).run Tryz.prog w = .ok (.slice (some ⟨w.heap.size, 0, none⟩) s.size cap) X ∧ RowB X w.heap.size (ls s) ∧ Below w.heap.size w X ∧ w.heap.size < X.heap.size := by
  refine ⟨_, _, Lib.run_convert_string_bytes w 9 49 5 s Tryz.underlying9 Tryz.underlying49 Tryz.underlying5, ⟨?_⟩, ?_, ?_⟩
  · intro j x hx
    have hj : j < s.size := by
      have := (List.getElem?_eq_some_iff.1 hx).1
      rwa [ls_len] at this
    refine ⟨?_, ?_⟩
    · rw [Lib.bytesWorld_cell w 5 s j hj]
      have e := (List.getElem?_eq_some_iff.1 hx).2
      simp [ls] at e
      simp [← e, hj]
    · have hz : s.size ≤ (Lib.bytesCells w 5 s).size := by simp [Lib.bytesCells]
      have hn := Lib.bytesWorld_at_new w 5 s
      simp [World.frozen?, hn]; omega
  · exact ⟨rfl, rfl, rfl, by rw [Lib.bytesWorld_size]; omega, fun k hk => Lib.bytesWorld_at_old w 5 s k hk⟩
  · rw [Lib.bytesWorld_size]; omega
/-- the first k letters made small -/
def mixL (s : ByteArray) (k : Nat) : List UInt8 := low ((ls s).take k) ++ (ls s).drop k
theorem mixL_zero (s : ByteArray) : mixL s 0 = ls s := by simp [mixL, low]
theorem mixL_len (s : ByteArray) (k : Nat) : (mixL s k).length = s.size := by
  unfold mixL low
  rw [List.length_append, List.length_map, ← List.length_append, List.take_append_drop, ls_len]
theorem mixL_end (s : ByteArray) (k : Nat) (h : s.size ≤ k) : mixL s k = low (ls s) := by
  unfold mixL
  rw [List.take_of_length_le (by rw [ls_len]; exact h), List.drop_of_length_le (by rw [ls_len]; exact h), List.append_nil]
theorem mixL_step (s : ByteArray) (k : Nat) (h : k < s.size) : ∃ c, (mixL s k)[k]? = some c ∧ (mixL s k).set k (lowB c) = mixL s (k + 1) := by
  obtain ⟨c, gc, _, _, tc, dc⟩ := get_ls h
  have hlen : (low ((ls s).take k)).length = k := by unfold low; rw [List.length_map, List.length_take, ls_len]; omega
  refine ⟨c, ?_, ?_⟩
  · unfold mixL
    rw [List.getElem?_append_right (by omega), hlen, Nat.sub_self, dc]; rfl
  · unfold mixL
    rw [dc, List.set_append_right _ _ (by omega), hlen, Nat.sub_self, List.set_cons_zero, tc]
    unfold low
    rw [List.map_append]
    simp
/-! ### unquoted -/
def qV (l : List UInt8) : List UInt8 := (quoF l).getD []
def qB (l : List UInt8) : Bool := (quoF l).isSome
theorem uq_yes {l : List UInt8} {c : UInt8} {x : List UInt8} (hc : c = 34) (h : uqF l [] = some x) : qV (c :: l) = x ∧ qB (c :: l) = true := by
  have : quoF (c :: l) = some x := by
    show (if c = 34 then uqF l [] else none) = some x
    rw [if_pos hc, h]
  unfold qV qB
  rw [this]; exact ⟨rfl, rfl⟩
theorem uq_no {l : List UInt8} {c : UInt8} (h : c ≠ 34 ∨ uqF l [] = none) : qV (c :: l) = [] ∧ qB (c :: l) = false := by
  have : quoF (c :: l) = none := by
    show (if c = 34 then uqF l [] else none) = none
    split
    · rcases h with h | h
      · rename_i hc; exact absurd hc h
      · exact h
    · rfl
  unfold qV qB
  rw [this]; exact ⟨rfl, rfl⟩
theorem uq_nil : qV [] = [] ∧ qB [] = false := ⟨rfl, rfl⟩
theorem new_byte (w : World) (c : Int) : ∀ j u, ([Value.int .u8 c] : List Value)[j]? = some u → (w.alloc (.cells #[.int .u8 c] 5)).cell? ((⟨w.heap.size, 0, none⟩ : Addr).add j) = some u := by
  intro j u hj
  rw [add_at, Nat.zero_add, (At.new w _ _).cell]
  simpa using hj
def UqInv (s : ByteArray) (R : Option (List UInt8)) (k : Nat) (acc : List UInt8) : Prop := uqF ((ls s).drop k) acc = R
theorem bytesV_snoc (l : List UInt8) (c : UInt8) : bytesV l ++ [Value.int .u8 (c.toNat : Int)] = bytesV (l ++ [c]) := by rw [bytesV_append]; rfl
end Go.Proofs.YtdldoklkenhopaaGreatDoor.Fi
end

section
namespace Go.Proofs.YtdldoklkenhopaaGreatDoor.In
open Go.RowKit Go.PlainAid
open Hx Fi Ch
set_option linter.unusedVariables false
set_option maxRecDepth 20000
set_option linter.unusedSimpArgs false

theorem isDigit_any (b : Int) (w : World) : Calls Tryz.prog 48 #[.int .u8 b] w fun e w' => e = .returned (.bool (decide (48 ≤ b ∧ b ≤ 57))) ∧ w = w' := by
  by_cases h1 : 48 ≤ b
  · by_cases h2 : b ≤ 57
    · rw [decide_eq_true ⟨h1, h2⟩]
      go_enter Tryz.func48, Tryz.ntmps48
      go_wp2
      go_ret
      exact ⟨rfl, rfl⟩
    · rw [decide_eq_false (fun h => h2 h.2)]
      go_enter Tryz.func48, Tryz.ntmps48
      go_wp2
      go_ret
      exact ⟨rfl, rfl⟩
  · rw [decide_eq_false (fun h => h1 h.1)]
    go_enter Tryz.func48, Tryz.ntmps48
    go_wp2
    go_ret
    exact ⟨rfl, rfl⟩

def DigPost (o : Option (UInt8 × UInt8)) (w : World) (e : Ending) (w' : World) : Prop :=
  (match o with
  | none => e = .returned (.tuple #[.int .i64 0, .int .i64 0, .bool false])
  | some (a, b) => e = .returned (.tuple #[.int .i64 ((a.toNat : Int) - 48), .int .i64 ((b.toNat : Int) - 48), .bool true])) ∧ Below w.heap.size w w'
theorem dig_none (w : World) : DigPost none w = fun e w' => e = .returned (.tuple #[.int .i64 0, .int .i64 0, .bool false]) ∧ Below w.heap.size w w' := rfl
theorem dig_some (a b : UInt8) (w : World) : DigPost (some (a, b)) w = fun e w' => e = .returned (.tuple #[.int .i64 ((a.toNat : Int) - 48), .int .i64 ((b.toNat : Int) - 48), .bool true]) ∧ Below w.heap.size w w' := rfl
theorem u8_le (a b : UInt8) : a ≤ b ↔ (a.toNat : Int) ≤ (b.toNat : Int) := by rw [UInt8.le_iff_toNat_le]; omega
theorem u8_eq (a b : UInt8) : a = b ↔ (a.toNat : Int) = (b.toNat : Int) := by
  constructor
  · rintro rfl; rfl
  · intro h; exact UInt8.toNat_inj.1 (by omega)
theorem getD_bt {s : ByteArray} {k : Nat} (h : k < s.size) : (((ls s).getD k 0).toNat : Int) = bt s k := by
  obtain ⟨c, gc, ec, _⟩ := get_ls h
  rw [List.getD_eq_getElem?_getD, gc, ec]; rfl
theorem vrF_bt {s : ByteArray} (h : s.size = 3) : vrF (ls s) = if (48 ≤ bt s 0 ∧ bt s 0 ≤ 57) ∧ bt s 1 = 46 ∧ 48 ≤ bt s 2 ∧ bt s 2 ≤ 57 then some ((ls s).getD 0 0, (ls s).getD 2 0) else none := by
  unfold vrF
  rw [ls_len]
  have e0 := getD_bt (s := s) (k := 0) (by omega)
  have e1 := getD_bt (s := s) (k := 1) (by omega)
  have e2 := getD_bt (s := s) (k := 2) (by omega)
  simp only [h, true_and, u8_le, u8_eq, e0, e1, e2]
  rfl
set_option maxHeartbeats 2000000 in
theorem digitsOf_any (s : ByteArray) (w : World) (hs : s.size ≤ 1099511627776) :
    Calls Tryz.prog 26 #[.string s] w (DigPost (verF (ls s)) w) := by
  have r1 := fun w => cut_any s pHT w hs (by decide)
  by_cases hp : pre s pHT = true
  · have e1 := pre_le hp
    have e0 : pHT.size = 5 := rfl
    rw [e0] at e1
    have ec : cut s pHT = s.extract 5 s.size := by unfold cut; rw [if_pos hp]; rfl
    rw [hp, ec] at r1
    rw [verF_pre ((pre_ht s).1 hp)]
    have ed : (ls s).drop 5 = ls (s.extract 5 s.size) := by
      rw [ls_extract, List.take_of_length_le (by rw [List.length_drop, ls_len]; omega)]
    rw [ed]
    have hD : (s.extract 5 s.size).size ≤ 1099511627776 := by rw [ByteArray.size_extract]; omega
    unfold pHT at r1
    clear ec ed e0 e1 hp
    generalize s.extract 5 s.size = D at *
    by_cases h3 : D.size = 3
    · rw [vrF_bt h3]
      have hg := get_bt D
      have g3 : ((D.size : Int) != 3) = false := by rw [h3]; rfl
      have i0 := fun w => isDigit_any (bt D 0) w
      have i2 := fun w => isDigit_any (bt D 2) w
      have y0 : (0 : Int) < (D.size : Int) := by omega
      have y1 : (1 : Int) < (D.size : Int) := by omega
      have y2 : (2 : Int) < (D.size : Int) := by omega
      have x0 := getD_bt (s := D) (k := 0) (by omega)
      have x2 := getD_bt (s := D) (k := 2) (by omega)
      generalize (ls D).getD 0 0 = A at *
      generalize (ls D).getD 2 0 = B at *
      by_cases c0 : 48 ≤ bt D 0 ∧ bt D 0 ≤ 57
      · rw [decide_eq_true c0] at i0
        by_cases c1 : bt D 1 = 46
        · by_cases c2 : 48 ≤ bt D 2 ∧ bt D 2 ≤ 57
          · rw [if_pos ⟨c0, c1, c2⟩, dig_some, x0, x2]
            rw [decide_eq_true c2] at i2
            have g1 : (bt D 1 != 46) = false := by rw [c1]; rfl
            have w0 : IntKind.u8.wrap (bt D 0 - 48) = bt D 0 - 48 := IntWalk.u8_in _ (by omega)
            have w2 : IntKind.u8.wrap (bt D 2 - 48) = bt D 2 - 48 := IntWalk.u8_in _ (by omega)
            have z0 : IntKind.i64.wrap (bt D 0 - 48) = bt D 0 - 48 := IntWalk.i64_in _ (by omega)
            have z2 : IntKind.i64.wrap (bt D 2 - 48) = bt D 2 - 48 := IntWalk.i64_in _ (by omega)
            clear c1 x0 x2
            go_enter Tryz.func26, Tryz.ntmps26
            go_wp2_with fail
            refine (r1 _).mono ?_
            rintro e w' ⟨rfl, rfl⟩
            clear r1
            go_wp2_with fail
            refine (i0 _).mono ?_
            rintro e w' ⟨rfl, rfl⟩
            go_wp2_with fail
            refine (i2 _).mono ?_
            rintro e w' ⟨rfl, rfl⟩
            go_upto_region 4 with (fail)
            go_quiet (fail)
            have BQ : Below w.heap.size w (w.drewN nq) := ⟨rfl, rfl, rfl, Nat.le_refl _, fun _ _ => rfl⟩
            generalize w.drewN nq = wq at *
            go_wp2
            go_ret3
            exact ⟨rfl, BQ⟩
          · rw [if_neg (fun x => c2 x.2.2), dig_none]
            rw [decide_eq_false c2] at i2
            have g1 : (bt D 1 != 46) = false := by rw [c1]; rfl
            clear c1 x0 x2 c2
            go_enter Tryz.func26, Tryz.ntmps26
            go_wp2_with fail
            refine (r1 _).mono ?_
            rintro e w' ⟨rfl, rfl⟩
            clear r1
            go_wp2_with fail
            refine (i0 _).mono ?_
            rintro e w' ⟨rfl, rfl⟩
            go_wp2_with fail
            refine (i2 _).mono ?_
            rintro e w' ⟨rfl, rfl⟩
            go_wp2
            go_ret3
            exact ⟨rfl, Below.refl _ _⟩
        · rw [if_neg (fun x => c1 x.2.1), dig_none]
          have g1 : (bt D 1 != 46) = true := by rw [bne_iff_ne]; exact c1
          clear c1 x0 x2 i2
          go_enter Tryz.func26, Tryz.ntmps26
          go_wp2_with fail
          refine (r1 _).mono ?_
          rintro e w' ⟨rfl, rfl⟩
          clear r1
          go_wp2_with fail
          refine (i0 _).mono ?_
          rintro e w' ⟨rfl, rfl⟩
          go_wp2
          go_ret3
          exact ⟨rfl, Below.refl _ _⟩
      · rw [if_neg (fun x => c0 x.1), dig_none]
        rw [decide_eq_false c0] at i0
        clear c0 x0 x2 i2
        go_enter Tryz.func26, Tryz.ntmps26
        go_wp2_with fail
        refine (r1 _).mono ?_
        rintro e w' ⟨rfl, rfl⟩
        clear r1
        go_wp2_with fail
        refine (i0 _).mono ?_
        rintro e w' ⟨rfl, rfl⟩
        go_wp2
        go_ret3
        exact ⟨rfl, Below.refl _ _⟩
    · have e : vrF (ls D) = none := by
        unfold vrF
        rw [if_neg fun x => h3 (by rw [← ls_len]; exact x.1)]
      rw [e, dig_none]
      have g3 : ((D.size : Int) != 3) = true := by rw [bne_iff_ne]; omega
      clear e h3
      go_enter Tryz.func26, Tryz.ntmps26
      go_wp2_with fail
      refine (r1 _).mono ?_
      rintro e w' ⟨rfl, rfl⟩
      clear r1
      go_wp2
      go_ret3
      exact ⟨rfl, Below.refl _ _⟩
  · have e : pre s pHT = false := by simpa using hp
    have ec : cut s pHT = s := by unfold cut; rw [if_neg hp]
    rw [e, ec] at r1
    rw [verF_not fun h => hp ((pre_ht s).2 h), dig_none]
    unfold pHT at r1
    clear e ec hp
    go_enter Tryz.func26, Tryz.ntmps26
    go_wp2_with fail
    refine (r1 _).mono ?_
    rintro e w' ⟨rfl, rfl⟩
    clear r1
    go_wp2
    go_ret3
    exact ⟨rfl, Below.refl _ _⟩

def visN (b : Int) : Bool := decide (33 ≤ b ∧ b ≤ 126)
theorem vis_is (l : List UInt8) : l.all visB = allN visN l := by
  unfold allN
  congr 1
  funext c
  unfold visB visN
  simp only [u8_le]
  rfl
theorem tgt_nil {s : ByteArray} (h : s.size = 0) : decide (ls s ≠ [] ∧ (ls s).all visB = true) = false := by rw [ls_empty h]; simp
theorem tgt_ne {s : ByteArray} (h : 0 < s.size) : decide (ls s ≠ [] ∧ (ls s).all visB = true) = allN visN (ls s) := by
  rw [vis_is]
  have : ls s ≠ [] := ls_ne h
  simp [this]
set_option maxHeartbeats 1000000 in
theorem isTarget_any (s : ByteArray) (w : World) (hs : s.size ≤ 1099511627776) :
    Calls Tryz.prog 28 #[.string s] w fun e w' => e = .returned (.bool (decide (ls s ≠ [] ∧ (ls s).all visB = true))) ∧ Below w.heap.size w w' := by
  obtain ⟨cap, X, hcv, R0, F0, hlt⟩ := bytes_row w s
  have hX : w.heap.size < X.heap.size := hlt
  have hg := get_bt s
  have ES : Hid ((s.toList == []) = decide (s.size = 0)) := Lib.hid (by
    rw [ls_toList]
    by_cases h : s.size = 0
    · rw [ls_empty h]; simp [h]
    · have := ls_ne (s := s) (by omega)
      cases hq : ls s with
      | nil => exact absurd hq this
      | cons a b => simp [h])
  generalize hr : decide (ls s ≠ [] ∧ (ls s).all visB = true) = r
  have HR := Lib.hid hr
  clear hr
  have R' := Lib.hid R0
  clear R0
  go_enter Tryz.func28, Tryz.ntmps28
  go_wp2
  clear hcv
  go_loop [8] (fun i => ∃ k : Nat, k ≤ s.size ∧ i = .int .i64 k ∧ AllTo visN s k) (fun i => s.size - (intOf i).toNat)
  case atStart => exact ⟨0, Nat.zero_le _, rfl, AllTo.zero visN s⟩
  case round =>
    obtain ⟨k, hk, rfl, hd⟩ := hrel
    by_cases hlt2 : k < s.size
    · have l1 : (k : Int) < (s.size : Int) := by omega
      obtain ⟨c, gc, ec, _⟩ := get_ls hlt2
      obtain ⟨c1, _⟩ := R'.out.cell k c gc
      rw [← ec] at c1
      clear gc ec
      cases hv : visN (bt s k) with
      | true =>
        have HD := Lib.hid (hd.succ hlt2 hv)
        clear hd
        unfold visN at hv
        have hv := of_decide_eq_true hv
        have v1 : ¬ bt s k < 33 := by omega
        have v2 : ¬ 126 < bt s k := by omega
        clear hv
        generalize bt s k = b at *
        go_wp2
        go_round
        case rel => exact ⟨k + 1, by omega, by go_num, HD.out⟩
        case measure => simp [intOf]; omega
      | false =>
        have E := Lib.hid ((tgt_ne (s := s) (by omega)).trans (all_not hlt2 hv))
        have HE : r = false := by rw [← HR.out, E.out]
        clear hd HR E
        subst HE
        unfold visN at hv
        have hv := of_decide_eq_false hv
        by_cases v1 : bt s k < 33
        · clear hv
          generalize bt s k = b at *
          go_wp2
          go_ret
          exact ⟨rfl, F0⟩
        · have v2 : 126 < bt s k := by omega
          clear hv
          generalize bt s k = b at *
          go_wp2
          go_ret
          exact ⟨rfl, F0⟩
    · have l1 : ¬ (k : Int) < (s.size : Int) := by omega
      have E := Lib.hid (hd.whole (by omega))
      clear hd
      by_cases hz : s.size = 0
      · have HE : r = false := by rw [← HR.out, tgt_nil hz]
        have es : (s.toList == []) = true := by rw [ES.out]; simp [hz]
        clear HR E ES
        subst HE
        go_wp2
        go_ret
        exact ⟨rfl, F0⟩
      · have HE : r = true := by rw [← HR.out, tgt_ne (by omega), E.out]
        have es : (s.toList == []) = false := by rw [ES.out]; simp [hz]
        clear HR E ES
        subst HE
        go_wp2
        go_ret
        exact ⟨rfl, F0⟩
/-! ### a request line -/
def LnPost (o : Except Int (List UInt8 × List UInt8 × Nat)) (w : World) (e : Ending) (w' : World) : Prop :=
  (match o with
  | .error st => e = .returned (.tuple #[.string ⟨#[]⟩, .string ⟨#[]⟩, .int .i64 0, .int .i64 st])
  | .ok (m, t, k) => e = .returned (.tuple #[.string (tx m), .string (tx t), .int .i64 (k : Int), .int .i64 200])) ∧ Below w.heap.size w w'
theorem ln_err (st : Int) (w : World) : LnPost (.error st) w = fun e w' => e = .returned (.tuple #[.string ⟨#[]⟩, .string ⟨#[]⟩, .int .i64 0, .int .i64 st]) ∧ Below w.heap.size w w' := rfl
theorem ln_ok (m t : List UInt8) (k : Nat) (w : World) : LnPost (.ok (m, t, k)) w = fun e w' => e = .returned (.tuple #[.string (tx m), .string (tx t), .int .i64 (k : Int), .int .i64 200]) ∧ Below w.heap.size w w' := rfl
/-- the two cuts: the method, the target, the version; where a blank is missing, what stands there instead -/
def lnC (l : List UInt8) : List UInt8 × List UInt8 × List UInt8 :=
  match cutB 32 l with
  | none => (l, [], [])
  | some (m, r) => match cutB 32 r with
    | none => (m, r, [])
    | some (t, v) => (m, t, v)
theorem verF_nil : verF [] = none := by unfold verF; simp
theorem lnQ_cut (l : List UInt8) : lnQ l = match verF (lnC l).2.2 with
    | none => .error 400
    | some (a, b) => if isTok (lnC l).1 = true ∧ ((lnC l).2.1 ≠ [] ∧ (lnC l).2.1.all visB = true) then (if a = 49 ∧ b ≤ 49 then .ok ((lnC l).1, (lnC l).2.1, b.toNat - 48) else .error 505) else .error 400 := by
  unfold lnQ lnC
  cases cutB 32 l with
  | none => simp only [verF_nil]
  | some p =>
    obtain ⟨m, r⟩ := p
    simp only
    cases cutB 32 r with
    | none => simp only [verF_nil]; split <;> rfl
    | some q =>
      obtain ⟨t, v⟩ := q
      simp only
      cases verF v with
      | none => simp only; split <;> (try split) <;> rfl
      | some ab =>
        obtain ⟨a, b⟩ := ab
        simp only
        by_cases h1 : isTok m = true
        · by_cases h2 : t ≠ [] ∧ t.all visB = true
          · rw [if_pos h1, if_pos h2, if_pos (show isTok m = true ∧ (t ≠ [] ∧ t.all visB = true) from ⟨h1, h2⟩)]
          · rw [if_pos h1, if_neg h2, if_neg (fun x : isTok m = true ∧ (t ≠ [] ∧ t.all visB = true) => h2 x.2)]
        · rw [if_neg h1, if_neg (fun x : isTok m = true ∧ (t ≠ [] ∧ t.all visB = true) => h1 x.1)]
theorem cut_two (s : ByteArray) (hs : s.size ≤ 1099511627776) : ∃ x y b, (∀ w, Calls Tryz.prog 25 #[.string s, .string ⟨#[32]⟩] w (fun e w' => e = .returned (.tuple #[.string x, .string y, .bool b]) ∧ Below w.heap.size w w')) ∧ x.size ≤ s.size ∧ y.size ≤ s.size ∧ (match cutB 32 (ls s) with | none => x = s ∧ y = ⟨#[]⟩ | some (m, r) => x = tx m ∧ y = tx r) := by
  cases h : cutB 32 (ls s) with
  | none => exact ⟨_, _, _, fun w => cut_no s 32 w hs h, Nat.le_refl _, Nat.zero_le _, rfl, rfl⟩
  | some p =>
    obtain ⟨m, r⟩ := p
    have hl := congrArg List.length (cutB_some h).1
    rw [ls_len, List.length_append, List.length_cons] at hl
    exact ⟨_, _, _, fun w => cut_yes s 32 w hs h, by rw [tx_size]; omega, by rw [tx_size]; omega, rfl, rfl⟩
end Go.Proofs.YtdldoklkenhopaaGreatDoor.In
end

section
namespace Go.Proofs.YtdldoklkenhopaaGreatDoor.In
open Go.RowKit Go.PlainAid
open Hx Fi Ch
set_option linter.unusedVariables false
set_option maxRecDepth 20000
set_option linter.unusedSimpArgs false

theorem lnC_of {s x y t v : ByteArray} (h1 : match cutB 32 (ls s) with | none => x = s ∧ y = ⟨#[]⟩ | some (m, r) => x = tx m ∧ y = tx r) (h2 : match cutB 32 (ls y) with | none => t = y ∧ v = ⟨#[]⟩ | some (m, r) => t = tx m ∧ v = tx r) : lnC (ls s) = (ls x, ls t, ls v) := by
  unfold lnC
  cases h : cutB 32 (ls s) with
  | none =>
    rw [h] at h1
    obtain ⟨rfl, rfl⟩ := h1
    have : cutB 32 (ls (⟨#[]⟩ : ByteArray)) = none := rfl
    rw [this] at h2
    obtain ⟨rfl, rfl⟩ := h2
    rfl
  | some p =>
    obtain ⟨m, r⟩ := p
    rw [h] at h1
    obtain ⟨rfl, rfl⟩ := h1
    rw [ls_tx] at h2
    simp only
    cases h3 : cutB 32 r with
    | none =>
      rw [h3] at h2
      obtain ⟨rfl, rfl⟩ := h2
      simp only [ls_tx]; rfl
    | some q =>
      obtain ⟨t', v'⟩ := q
      rw [h3] at h2
      obtain ⟨rfl, rfl⟩ := h2
      simp only [ls_tx]
set_option maxHeartbeats 4000000 in
theorem line_any (s : ByteArray) (w : World) (hs : s.size ≤ 1048576) :
    Calls Tryz.prog 15 #[.string s] w (LnPost (lnQ (ls s)) w) := by
  obtain ⟨x, y, b1, r1, hx, hy, hc1⟩ := cut_two s (by omega)
  obtain ⟨t, v, b2, r2, ht, hv, hc2⟩ := cut_two y (by omega)
  have r3 := fun w => digitsOf_any v w (by omega)
  rw [lnQ_cut, lnC_of hc1 hc2]
  simp only
  have r4 := fun w => isToken_any x w (by omega)
  have r5 := fun w => isTarget_any t w (by omega)
  have r6 := fun w => clone_any x w (by omega)
  have r7 := fun w => clone_any t w (by omega)
  clear hc1 hc2 hx hy ht hv hs
  cases hq : verF (ls v) with
  | none =>
    rw [hq] at r3
    simp only [dig_none] at r3
    simp only
    rw [ln_err]
    clear hq r4 r5 r6 r7
    go_enter Tryz.func15, Tryz.ntmps15
    go_wp2_with fail
    refine (r1 _).mono ?_
    rintro e w1 ⟨rfl, F1⟩
    clear r1
    go_wp2_with fail
    refine (r2 _).mono ?_
    rintro e w2 ⟨rfl, F2⟩
    replace F1 := F1.trans (F2.mono F1.size)
    clear r2 F2
    go_wp2_with fail
    refine (r3 _).mono ?_
    rintro e w3 ⟨rfl, F2⟩
    replace F1 := F1.trans (F2.mono F1.size)
    clear r3 F2
    go_wp2
    refine bodyPost_ret (results_tmp4 Tryz.results15 _ _ _) rfl ?_
    exact ⟨rfl, F1⟩
  | some ab =>
    obtain ⟨a, b⟩ := ab
    rw [hq] at r3
    simp only [dig_some] at r3
    simp only
    have ha : (48 ≤ (a.toNat : Int) ∧ (a.toNat : Int) ≤ 57) ∧ 48 ≤ (b.toNat : Int) ∧ (b.toNat : Int) ≤ 57 := by
      unfold verF at hq
      split at hq
      · rename_i h
        injection hq with hq
        injection hq with e1 e2
        rw [← e1, ← e2]
        obtain ⟨_, _, _, ⟨a1, a2⟩, a3, a4⟩ := h
        have a1 := (u8_le _ _).1 a1
        have a2 := (u8_le _ _).1 a2
        have a3 := (u8_le _ _).1 a3
        have a4 := (u8_le _ _).1 a4
        exact ⟨⟨a1, a2⟩, a3, a4⟩
      · cases hq
    clear hq
    cases hk : isTok (ls x) with
    | false =>
      rw [hk] at r4
      rw [if_neg (fun h => by cases h.1), ln_err]
      clear hk r5 r6 r7 ha
      go_enter Tryz.func15, Tryz.ntmps15
      go_wp2_with fail
      refine (r1 _).mono ?_
      rintro e w1 ⟨rfl, F1⟩
      clear r1
      go_wp2_with fail
      refine (r2 _).mono ?_
      rintro e w2 ⟨rfl, F2⟩
      replace F1 := F1.trans (F2.mono F1.size)
      clear r2 F2
      go_wp2_with fail
      refine (r3 _).mono ?_
      rintro e w3 ⟨rfl, F2⟩
      replace F1 := F1.trans (F2.mono F1.size)
      clear r3 F2
      go_wp2_with fail
      refine (r4 _).mono ?_
      rintro e w' ⟨rfl, rfl⟩
      clear r4
      go_wp2
      refine bodyPost_ret (results_tmp4 Tryz.results15 _ _ _) rfl ?_
      exact ⟨rfl, F1⟩
    | true =>
      rw [hk] at r4
      by_cases hg : ls t ≠ [] ∧ (ls t).all visB = true
      · rw [if_pos ⟨rfl, hg⟩]
        rw [decide_eq_true hg] at r5
        clear hk hg
        by_cases hm : a = 49 ∧ b ≤ 49
        · rw [if_pos hm, ln_ok, tx_ls, tx_ls]
          obtain ⟨rfl, hb⟩ := hm
          have hb := (u8_le _ _).1 hb
          have e49 : ((49 : UInt8).toNat : Int) = 49 := rfl
          rw [e49] at hb
          have eb : ((b.toNat - 48 : Nat) : Int) = (b.toNat : Int) - 48 := by omega
          rw [eb]
          have m1 : (((49 : UInt8).toNat : Int) - 48 != 1) = false := rfl
          obtain ⟨k, hk⟩ : ∃ k, (b.toNat : Int) - 48 = k := ⟨_, rfl⟩
          rw [hk] at r3 ⊢
          have m2 : ¬ 1 < k := by omega
          have e1 : ((49 : UInt8).toNat : Int) - 48 = 1 := rfl
          rw [e1] at r3
          clear ha hb eb hk m1 e1 e49
          go_enter Tryz.func15, Tryz.ntmps15
          go_wp2_with fail
          refine (r1 _).mono ?_
          rintro e w1 ⟨rfl, F1⟩
          clear r1
          go_wp2_with fail
          refine (r2 _).mono ?_
          rintro e w2 ⟨rfl, F2⟩
          replace F1 := F1.trans (F2.mono F1.size)
          clear r2 F2
          go_wp2_with fail
          refine (r3 _).mono ?_
          rintro e w3 ⟨rfl, F2⟩
          replace F1 := F1.trans (F2.mono F1.size)
          clear r3 F2
          go_wp2_with fail
          refine (r4 _).mono ?_
          rintro e w' ⟨rfl, rfl⟩
          clear r4
          go_wp2_with fail
          refine (r5 _).mono ?_
          rintro e w4 ⟨rfl, F2⟩
          replace F1 := F1.trans (F2.mono F1.size)
          clear r5 F2
          go_wp2_with fail
          refine (r6 _).mono ?_
          rintro e w5 ⟨rfl, F2⟩
          replace F1 := F1.trans (F2.mono F1.size)
          clear r6 F2
          go_wp2_with fail
          refine (r7 _).mono ?_
          rintro e w6 ⟨rfl, F2⟩
          replace F1 := F1.trans (F2.mono F1.size)
          clear r7 F2
          go_wp2
          refine bodyPost_ret (results_tmp4 Tryz.results15 _ _ _) rfl ?_
          exact ⟨rfl, F1⟩
        · rw [if_neg hm, ln_err]
          clear r6 r7
          by_cases h1 : a = 49
          · subst h1
            have h2 : ¬ (b.toNat : Int) ≤ 49 := fun h => hm ⟨rfl, (u8_le _ _).2 h⟩
            obtain ⟨k, hk⟩ : ∃ k, (b.toNat : Int) - 48 = k := ⟨_, rfl⟩
            rw [hk] at r3
            have m2 : 1 < k := by omega
            have e1 : ((49 : UInt8).toNat : Int) - 48 = 1 := rfl
            rw [e1] at r3
            clear hm h2 hk ha e1
            go_enter Tryz.func15, Tryz.ntmps15
            go_wp2_with fail
            refine (r1 _).mono ?_
            rintro e w1 ⟨rfl, F1⟩
            clear r1
            go_wp2_with fail
            refine (r2 _).mono ?_
            rintro e w2 ⟨rfl, F2⟩
            replace F1 := F1.trans (F2.mono F1.size)
            clear r2 F2
            go_wp2_with fail
            refine (r3 _).mono ?_
            rintro e w3 ⟨rfl, F2⟩
            replace F1 := F1.trans (F2.mono F1.size)
            clear r3 F2
            go_wp2_with fail
            refine (r4 _).mono ?_
            rintro e w' ⟨rfl, rfl⟩
            clear r4
            go_wp2_with fail
            refine (r5 _).mono ?_
            rintro e w4 ⟨rfl, F2⟩
            replace F1 := F1.trans (F2.mono F1.size)
            clear r5 F2
            go_wp2
            refine bodyPost_ret (results_tmp4 Tryz.results15 _ _ _) rfl ?_
            exact ⟨rfl, F1⟩
          · have h2 : ¬ (a.toNat : Int) = 49 := fun h => h1 ((u8_eq _ _).2 h)
            obtain ⟨k, hk⟩ : ∃ k, (a.toNat : Int) - 48 = k := ⟨_, rfl⟩
            rw [hk] at r3
            have m2 : (k != 1) = true := by rw [bne_iff_ne]; omega
            generalize (b.toNat : Int) - 48 = j at *
            clear hm h2 hk ha h1
            go_enter Tryz.func15, Tryz.ntmps15
            go_wp2_with fail
            refine (r1 _).mono ?_
            rintro e w1 ⟨rfl, F1⟩
            clear r1
            go_wp2_with fail
            refine (r2 _).mono ?_
            rintro e w2 ⟨rfl, F2⟩
            replace F1 := F1.trans (F2.mono F1.size)
            clear r2 F2
            go_wp2_with fail
            refine (r3 _).mono ?_
            rintro e w3 ⟨rfl, F2⟩
            replace F1 := F1.trans (F2.mono F1.size)
            clear r3 F2
            go_wp2_with fail
            refine (r4 _).mono ?_
            rintro e w' ⟨rfl, rfl⟩
            clear r4
            go_wp2_with fail
            refine (r5 _).mono ?_
            rintro e w4 ⟨rfl, F2⟩
            replace F1 := F1.trans (F2.mono F1.size)
            clear r5 F2
            go_wp2
            refine bodyPost_ret (results_tmp4 Tryz.results15 _ _ _) rfl ?_
            exact ⟨rfl, F1⟩
      · rw [if_neg (fun h => hg h.2), ln_err]
        rw [decide_eq_false hg] at r5
        clear hk hg r6 r7 ha
        go_enter Tryz.func15, Tryz.ntmps15
        go_wp2_with fail
        refine (r1 _).mono ?_
        rintro e w1 ⟨rfl, F1⟩
        clear r1
        go_wp2_with fail
        refine (r2 _).mono ?_
        rintro e w2 ⟨rfl, F2⟩
        replace F1 := F1.trans (F2.mono F1.size)
        clear r2 F2
        go_wp2_with fail
        refine (r3 _).mono ?_
        rintro e w3 ⟨rfl, F2⟩
        replace F1 := F1.trans (F2.mono F1.size)
        clear r3 F2
        go_wp2_with fail
        refine (r4 _).mono ?_
        rintro e w' ⟨rfl, rfl⟩
        clear r4
        go_wp2_with fail
        refine (r5 _).mono ?_
        rintro e w4 ⟨rfl, F2⟩
        replace F1 := F1.trans (F2.mono F1.size)
        clear r5 F2
        go_wp2
        refine bodyPost_ret (results_tmp4 Tryz.results15 _ _ _) rfl ?_
        exact ⟨rfl, F1⟩
end Go.Proofs.YtdldoklkenhopaaGreatDoor.In
end

section
namespace Go.Proofs.YtdldoklkenhopaaGreatDoor.Ou
open Go.RowKit Go.PlainAid
open Hx Fi Ch In
set_option linter.unusedVariables false
set_option maxRecDepth 20000
set_option linter.unusedSimpArgs false

theorem ans_text (n : Nat) : ls ((⟨#[72, 84, 84, 80, 47, 49, 46, 49, 32]⟩ : ByteArray) ++ tx (digL 8 n) ++ (⟨#[32]⟩ : ByteArray) ++ reaB (n : Int)) = ansL n := by
  rw [ls_append, ls_append, ls_append, ls_tx]
  unfold ansL
  rw [show ls (⟨#[72, 84, 84, 80, 47, 49, 46, 49, 32]⟩ : ByteArray) = vL ++ [32] from rfl, show ls (⟨#[32]⟩ : ByteArray) = [32] from rfl]
  simp
theorem ask_text (m t : ByteArray) : ls (m ++ (⟨#[32]⟩ : ByteArray) ++ t ++ (⟨#[32]⟩ : ByteArray) ++ (⟨#[72, 84, 84, 80, 47, 49, 46, 49]⟩ : ByteArray)) = askL (ls m) (ls t) := by
  rw [ls_append, ls_append, ls_append, ls_append]
  unfold askL
  rw [show ls (⟨#[72, 84, 84, 80, 47, 49, 46, 49]⟩ : ByteArray) = vL from rfl, show ls (⟨#[32]⟩ : ByteArray) = [32] from rfl]
  simp
set_option maxHeartbeats 4000000 in
theorem answer_any {w : World} {v : Value} {xs : List Fi.Fd} (n : Int) (hv : FdsAt w v xs) (hl : xs.length ≤ 60) (hr : Fi.Reach xs) :
    Calls Tryz.prog 11 #[.int .i64 n, v] w fun e w' => e = .returned (.tuple #[.string (ansS n xs), .int .i64 (ansE n xs)]) ∧ Below w.heap.size w w' := by
  obtain ⟨base, cap, rfl, _, _⟩ := hv.is
  by_cases h1 : n < 100
  · obtain ⟨e1, e2⟩ := ans_out (n := n) (xs := xs) (.inl h1)
    rw [e1, e2]
    clear e1 e2 hv hr
    go_enter Tryz.func11, Tryz.ntmps11
    go_wp2
    go_ret2
    exact ⟨rfl, Below.refl _ _⟩
  by_cases h2 : 599 < n
  · obtain ⟨e1, e2⟩ := ans_out (n := n) (xs := xs) (.inr h2)
    rw [e1, e2]
    clear e1 e2 hv hr
    go_enter Tryz.func11, Tryz.ntmps11
    go_wp2
    go_ret2
    exact ⟨rfl, Below.refl _ _⟩
  obtain ⟨e1, e2⟩ := ans_in (n := n) (xs := xs) (by omega)
  rw [e1, e2]
  clear e1 e2
  obtain ⟨k, rfl⟩ : ∃ k : Nat, n = (k : Int) := ⟨n.toNat, by omega⟩
  rw [show (k : Int).toNat = k from rfl]
  have ht := ans_text k
  have d3 := (dig3 (n := k) (by omega) (by omega)).2
  have dc := fun w => dec_pos (k : Int) w (by omega) (by omega)
  have rs := fun w => reason_any (k : Int) w
  have rz := reaB_size (k : Int)
  rw [show (k : Int).toNat = k from rfl] at dc
  obtain ⟨D, hD⟩ : ∃ D, tx (digL 8 k) = D := ⟨_, rfl⟩
  have dz : D.size = 3 := by rw [← hD, tx_size, d3]
  change ∀ w, Calls _ _ _ _ (fun e w' => e = .returned (.string (tx (digL 8 k))) ∧ _) at dc
  rw [hD] at dc ht
  obtain ⟨R, hR⟩ : ∃ R, reaB (k : Int) = R := ⟨_, rfl⟩
  rw [hR] at rs rz ht
  obtain ⟨A1, hA1⟩ : ∃ A1, (⟨#[72, 84, 84, 80, 47, 49, 46, 49, 32]⟩ : ByteArray) ++ D = A1 := ⟨_, rfl⟩
  have z1 : A1.size = 12 := by rw [← hA1, ByteArray.size_append, dz]; rfl
  obtain ⟨A2, hA2⟩ : ∃ A2, A1 ++ (⟨#[32]⟩ : ByteArray) = A2 := ⟨_, rfl⟩
  have z2 : A2.size = 13 := by rw [← hA2, ByteArray.size_append, z1]; rfl
  obtain ⟨A3, hA3⟩ : ∃ A3, A2 ++ R = A3 := ⟨_, rfl⟩
  have z3 : A3.size ≤ 44 := by rw [← hA3, ByteArray.size_append, z2]; omega
  rw [hA1, hA2, hA3] at ht
  have hd := fun (z : World) (b : Below w.heap.size w z) => head_any (w := z) A3 (hv.below b) (by omega) hl hr
  rw [ht] at hd
  have i1 : ¬ (k : Int) < 100 := by omega
  have i2 : ¬ (599 : Int) < (k : Int) := by omega
  clear ht hv hr d3 hD hR h1 h2
  go_enter Tryz.func11, Tryz.ntmps11
  go_wp2_with fail
  refine (dc _).mono ?_
  rintro e w1 ⟨rfl, F1⟩
  clear dc
  go_wp2_with fail
  refine (rs _).mono ?_
  rintro e w2 ⟨rfl, rfl⟩
  clear rs
  have h3 := hd _ F1
  go_wp2_with fail
  refine h3.mono ?_
  rintro e w3 ⟨rfl, F3⟩
  replace F1 := F1.trans (F3.mono F1.size)
  clear h3 hd F3
  go_wp2
  go_ret2
  exact ⟨rfl, F1⟩
set_option maxHeartbeats 4000000 in
theorem ask_any {w : World} {v : Value} {xs : List Fi.Fd} (m t : ByteArray) (hv : FdsAt w v xs) (hm : m.size ≤ 140737488355328) (ht : t.size ≤ 140737488355328) (hl : xs.length ≤ 60) (hr : Fi.Reach xs) :
    Calls Tryz.prog 6 #[.string m, .string t, v] w fun e w' => e = .returned (.tuple #[.string (askS (ls m) (ls t) xs), .int .i64 (askE (ls m) (ls t) xs)]) ∧ Below w.heap.size w w' := by
  obtain ⟨base, cap, rfl, _, _⟩ := hv.is
  by_cases h1 : 1024 < m.size + t.size + 10
  · obtain ⟨e1, e2⟩ := ask_out (xs := xs) (askO_long (m := ls m) (t := ls t) (by rw [ls_len, ls_len]; omega))
    rw [e1, e2]
    clear e1 e2 hv hr
    go_enter Tryz.func6, Tryz.ntmps6
    go_wp2
    go_ret2
    exact ⟨rfl, Below.refl _ _⟩
  have hx := ask_text m t
  obtain ⟨A1, hA1⟩ : ∃ A1, m ++ (⟨#[32]⟩ : ByteArray) = A1 := ⟨_, rfl⟩
  have z1 : A1.size = m.size + 1 := by rw [← hA1, ByteArray.size_append]; rfl
  obtain ⟨A2, hA2⟩ : ∃ A2, A1 ++ t = A2 := ⟨_, rfl⟩
  have z2 : A2.size = m.size + 1 + t.size := by rw [← hA2, ByteArray.size_append, z1]
  obtain ⟨A3, hA3⟩ : ∃ A3, A2 ++ (⟨#[32]⟩ : ByteArray) = A3 := ⟨_, rfl⟩
  have z3 : A3.size = m.size + 1 + t.size + 1 := by rw [← hA3, ByteArray.size_append, z2]; rfl
  obtain ⟨A4, hA4⟩ : ∃ A4, A3 ++ (⟨#[72, 84, 84, 80, 47, 49, 46, 49]⟩ : ByteArray) = A4 := ⟨_, rfl⟩
  have z4 : A4.size = m.size + 1 + t.size + 1 + 8 := by rw [← hA4, ByteArray.size_append, z3]; rfl
  rw [hA1, hA2, hA3, hA4] at hx
  have ln := fun w => line_any A4 w (by omega)
  rw [hx] at ln
  have y1 : A1.size ≤ 1024 := by omega
  have y2 : A2.size ≤ 1024 := by omega
  have y3 : A3.size ≤ 1024 := by omega
  have y4 : A4.size ≤ 1024 := by omega
  have i1 : m.size ≤ 1024 := by omega
  have i2 : t.size ≤ 1024 := by omega
  have i3 : (m.size : Int) + 1 + (t.size : Int) + 1 + 8 ≤ 1024 := by omega
  cases hq : lnQ (askL (ls m) (ls t)) with
  | error st =>
    obtain ⟨e1, e2⟩ := ask_out (xs := xs) (askO_bad hq)
    rw [e1, e2]
    rw [hq] at ln
    simp only [ln_err] at ln
    have hst := lnQ_err hq
    clear e1 e2 hv hr hq hx z1 z2 z3 z4
    rcases hst with rfl | rfl
    · go_enter Tryz.func6, Tryz.ntmps6
      go_wp2_with fail
      refine (ln _).mono ?_
      rintro e w1 ⟨rfl, F1⟩
      clear ln
      go_wp2
      go_ret2
      exact ⟨rfl, F1⟩
    · go_enter Tryz.func6, Tryz.ntmps6
      go_wp2_with fail
      refine (ln _).mono ?_
      rintro e w1 ⟨rfl, F1⟩
      clear ln
      go_wp2
      go_ret2
      exact ⟨rfl, F1⟩
  | ok p =>
    obtain ⟨e1, e2⟩ := ask_in (xs := xs) (askO_ok hq (by rw [ls_len, ls_len]; omega))
    rw [e1, e2]
    rw [hq] at ln
    obtain ⟨a, b, c⟩ := p
    simp only [ln_ok] at ln
    have hd := fun (z : World) (b : Below w.heap.size w z) => head_any (w := z) A4 (hv.below b) (by omega) hl hr
    rw [hx] at hd
    generalize tx a = M at ln
    generalize tx b = U at ln
    clear e1 e2 hv hr hq hx z1 z2 z3 z4
    go_enter Tryz.func6, Tryz.ntmps6
    go_wp2_with fail
    refine (ln _).mono ?_
    rintro e w1 ⟨rfl, F1⟩
    clear ln
    have h3 := hd _ F1
    go_wp2_with fail
    refine h3.mono ?_
    rintro e w3 ⟨rfl, F3⟩
    replace F1 := F1.trans (F3.mono F1.size)
    clear h3 hd F3
    go_wp2
    go_ret2
    exact ⟨rfl, F1⟩
end Go.Proofs.YtdldoklkenhopaaGreatDoor.Ou
end
