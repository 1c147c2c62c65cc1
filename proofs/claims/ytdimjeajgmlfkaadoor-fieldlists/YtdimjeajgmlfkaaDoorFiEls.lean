/-
  Contracts of Elements, has and Closes of package field.
-/
import Derived.Test.YtdimjeajgmlfkaaDoorFiCutP
namespace Go.Proofs.YtdimjeajgmlfkaaDoor.Fi
open Go.RowKit Go.PlainAid
open Hx
set_option linter.unusedVariables false
set_option maxRecDepth 20000
set_option linter.unusedSimpArgs false

/-- fields that are few and short -/
structure Short (xs : List Fd) : Prop where
  len : xs.length ≤ 1000
  n : ∀ x ∈ xs, x.n.size ≤ 100000
  v : ∀ x ∈ xs, x.v.size ≤ 100000
theorem Short.reach {xs : List Fd} (h : Short xs) : Reach xs := fun x hx => by have := h.n x hx; have := h.v x hx; omega
/-- the elements of the first k values -/
def sumE (vs : List ByteArray) (k : Nat) : List ByteArray := ((vs.take k).map elsF).flatten
theorem elsTo {vs : List ByteArray} {k : Nat} {s : ByteArray} (h : vs[k]? = some s) : sumE vs (k + 1) = sumE vs k ++ elsF s := by
  unfold sumE
  rw [List.take_add_one, h]
  simp
theorem take_snoc' {ss : List ByteArray} {j : Nat} {p : ByteArray} (h : ss[j]? = some p) : ss.take (j + 1) = ss.take j ++ [p] := by
  rw [List.take_add_one, h]; rfl
theorem own_weaken {w : World} {B C e sz n : Nat} {v : Value} {xs : List Value} (h : w.ownsRow B e sz v n xs) (hC : C ≤ B) : w.ownsRow C e sz v n xs := by
  refine ⟨h.1, ?_⟩
  rcases h.2 with hn | ⟨g, cap, cur, hv, hb, r⟩
  · exact .inl hn
  · exact .inr ⟨g, cap, cur, hv, Nat.le_trans hC hb, r⟩
/-- two rows of the call's own in blocks of their own -/
def Apart (u v : Value) : Prop := u.ownBlock = none ∨ u.ownBlock ≠ v.ownBlock
theorem apart_new {w : World} {B e sz n e' sz' n' H : Nat} {u v : Value} {xs ys : List Value} (hu : w.ownsRow B e sz u n xs) (hv : w.ownsRow H e' sz' v n' ys) (hlt : ∀ b, u.ownBlock = some b → b < H) : Apart u v := by
  cases hq : u.ownBlock with
  | none => exact .inl hq
  | some b =>
    refine .inr fun e => ?_
    rw [hq] at e
    have := hlt b hq
    have := (hv.lt b e.symm).1
    omega
def ElRel (w : World) (E : List ByteArray) (v : Value) (wr : World) (m : Nat) : Prop :=
  ∃ (base : Option Addr) (cap : Nat), v = .slice base m cap ∧ Hid (m = E.length) ∧ wr.ownsRow w.heap.size 9 1 (.slice base m cap) m (strsL E) ∧ Below w.heap.size w wr
set_option maxRecDepth 100000 in
set_option maxHeartbeats 4000000 in
theorem elements_any {w : World} {v : Value} {xs : List Fd} (name : ByteArray) (hv : FdsAt w v xs) (hz : name.size ≤ 100000) (hs : Short xs) :
    Calls Tryd.prog 23 #[v, .string name] w fun e w' => ∃ v', e = .returned v' ∧ OwnS w w' v' (elemsF (ls name) xs) := by
  have r1 := valuesOf_any name hv (by have := hs.len; omega) (by omega) hs.reach
  have nl := valsF_le (ls name) xs
  have hl := hs.len
  have HB : Hid (∀ s ∈ valsF (ls name) xs, s.size ≤ 100000) := Lib.hid fun s h => by
    obtain ⟨x, hx, rfl⟩ := valsF_mem h
    exact hs.v x hx
  have hE : elemsF (ls name) xs = ((valsF (ls name) xs).map elsF).flatten := rfl
  rw [hE]
  obtain ⟨i0, hi, hz0, hz1, hz2⟩ := info_parts infoS
  obtain ⟨base0, cap0, rfl, _, _⟩ := hv.is
  clear hv hs hE
  generalize valsF (ls name) xs = vs at r1 nl HB ⊢
  obtain ⟨n, hn⟩ : ∃ n, n = vs.length := ⟨_, rfl⟩
  rw [← hn] at nl
  have HN := Lib.hid hn
  clear hn
  go_enter Tryd.func23, Tryd.ntmps23
  go_wp2_with fail
  refine r1.mono ?_
  rintro e w1 ⟨v1, rfl, own1, bel1⟩
  clear r1
  rw [← HN.out] at own1
  obtain ⟨b1, c1, rfl⟩ := own_shape own1
  have V1 : Hid (StrsAt w1 (.slice b1 n c1) vs) := Lib.hid (by rw [HN.out] at own1 ⊢; exact owns_strs own1)
  clear own1
  have own0 : w1.ownsRow w1.heap.size 9 1 (.slice none 0 0) 0 [] := World.ownsRow_nil _ _ _ _
  have BEL1 := Lib.hid bel1
  clear bel1
  go_wp2
  go_loopw [5, 14] (fun v i wr => ∃ (k m : Nat), k ≤ n ∧ m ≤ k * 100001 ∧ i = .int .i64 k ∧ ElRel w1 (sumE vs k) v wr m) (fun _ i _ => n - (intOf i).toNat)
  case atStart => exact ⟨0, 0, Nat.zero_le _, Nat.zero_le _, rfl, ⟨none, 0, rfl, Lib.hid rfl, own0, Below.refl _ _⟩⟩
  case round =>
    clear own0
    obtain ⟨k, m, hk, hm, rfl, ⟨base, cap, rfl, HM, own, bel⟩⟩ := hrel
    by_cases hlt : k < n
    · obtain ⟨s, hs⟩ : ∃ s, vs[k]? = some s := ⟨vs[k]'(by have := HN.out; omega), List.getElem?_eq_getElem _⟩
      have hsz := HB.out s (List.mem_of_getElem? hs)
      obtain ⟨a, rfl, ha, hcell⟩ := (V1.out.below bel).at hs
      have ET := Lib.hid (elsTo hs)
      have l1 : (k : Int) < (n : Int) := by omega
      have ct := cut_any s 44 44 (Lib.hid rfl) (by decide) (by decide) (by decide) wr (by omega)
      have eb := elsF_bound s
      have hel : elsF s = fillF ((cutA 44 (ls s)).map tx) := rfl
      rw [hel] at eb
      have EL := Lib.hid hel
      have cb := cutA_bound 44 (ls s)
      rw [ls_len] at cb
      have cl : ((cutA 44 (ls s)).map tx).length ≤ s.size + 1 := by rw [List.length_map]; exact cb.1
      clear hs hel cb
      generalize (cutA 44 (ls s)).map tx = ps at ct eb EL cl
      go_wp2_with fail
      refine ct.mono ?_
      rintro e w2 ⟨v2, rfl, own2, G2⟩
      have fl := filled_any (w := w2) (v := v2) (ss := ps) (owns_strs own2) (by omega)
      have own3 := owns_below own G2
      have lt3 : ∀ b, (Value.slice base m cap).ownBlock = some b → b < w2.heap.size := fun b hb => (own3.lt b hb).2
      have bel3 := bel.trans (G2.mono bel.size)
      clear ct own2 own bel G2 hcell
      go_wp2_with fail
      refine fl.mono ?_
      rintro e w3 ⟨v3, rfl, own4, G3⟩
      have own5 := owns_below own3 G3
      have bel5 := bel3.trans (G3.mono bel3.size)
      clear fl own3 bel3 G3
      obtain ⟨b3, c3, rfl⟩ := own_shape own4
      generalize fillF ps = qs at eb EL own4
      obtain ⟨p, hp⟩ : ∃ p, p = qs.length := ⟨_, rfl⟩
      rw [← hp] at own4 eb
      have AP0 : Apart (.slice b3 p c3) (.slice base m cap) := by
        cases hq : (Value.slice b3 p c3).ownBlock with
        | none => exact .inl hq
        | some b =>
          refine .inr fun e => ?_
          rw [hq] at e
          have h1 := lt3 b e.symm
          have h2 := (own4.lt b hq).1
          omega
      have HP := Lib.hid hp
      have HEB := Lib.hid eb.2
      have pb := eb.1
      rw [← hp]
      clear hp eb lt3
      go_wp2
      go_loopw [5, 22] (fun v i wq => ∃ (j : Nat) (base' : Option Addr) (cap' : Nat), j ≤ p ∧ i = .int .i64 j ∧ v = .slice base' (m + j) cap' ∧ wq.ownsRow w1.heap.size 9 1 (.slice base' (m + j) cap') (m + j) (strsL (sumE vs k ++ qs.take j)) ∧ Below w1.heap.size w1 wq ∧ wq.ownsRow w2.heap.size 9 1 (.slice b3 p c3) p (strsL qs) ∧ Apart (.slice b3 p c3) (.slice base' (m + j) cap')) (fun _ i _ => p - (intOf i).toNat)
      case atStart => exact ⟨0, base, cap, Nat.zero_le _, rfl, rfl, by simpa using own5, bel5, own4, AP0⟩
      case round =>
        clear own5 bel5 own4 AP0
        obtain ⟨j, base', cap', hj, rfl, rfl, own, bel, ownq, AP⟩ := hrel
        by_cases hjt : j < p
        · obtain ⟨q, hq⟩ : ∃ q, qs[j]? = some q := ⟨qs[j]'(by have := HP.out; omega), List.getElem?_eq_getElem _⟩
          have V3 : StrsAt wr (.slice b3 p c3) qs := by
            have := HP.out
            rw [this] at ownq ⊢
            exact owns_strs ownq
          obtain ⟨a2, rfl, ha2, hcell2⟩ := V3.at hq
          have hqs := HEB.out q (List.mem_of_getElem? hq)
          have TK := Lib.hid (take_snoc' hq)
          have l2 : (j : Int) < (p : Int) := by omega
          have cl2 := fun w => clone_any q w (by omega)
          clear hq V3
          go_wp2_with fail
          refine (cl2 _).mono ?_
          rintro e w5 ⟨rfl, G5⟩
          have own6 := owns_below own G5
          have ownq6 := owns_below ownq G5
          have bel8 := bel.trans (G5.mono bel.size)
          have hN := bel8.size
          clear own bel G5 cl2 hcell2 ownq
          go_upto_region 9 with (at_builtin; refine wpList_append_lies _ rfl _ _ 44 rfl w1.heap.size 9 i0 (.string ⟨#[]⟩) 1 16 Tryd.underlying44 hi hz0 hz1 hz2 rfl (by decide) _ _ _ rfl (own6.alloc _) ⟨w5.heap.size, 0, none⟩ 1 1 [.string q] rfl ?c0 ?c1 ?c2 ?c6 ?c3 ?c4 ?c5 (w5.heap.size + 1) (by simp) ?_)
          case c0 => rfl
          case c1 => exact new_str w5 q
          case c2 => intro u hu; simp at hu; subst hu; rfl
          case c6 => omega
          case c3 => unfold maxLen; omega
          case c4 => omega
          case c5 => simp; omega
          intro g cap6 w6 own7 hgrow hwhere _
          have own8 : w6.ownsRow w1.heap.size 9 1 (.slice (some ⟨g, 0, none⟩) (m + j + 1) cap6) (m + j + 1) (strsL (sumE vs k ++ qs.take (j + 1))) := by
            rw [TK.out, ← List.append_assoc, strsL_snoc]
            exact own7
          have bel9 := (bel8.alloc hN (.cells #[.string q] 9)).grown hgrow (by simp; omega) (fun j hj => (own6.lt j hj).1)
          have ownq7 := (ownq6.alloc (.cells #[.string q] 9)).kept hgrow AP
          have AP2 : Apart (.slice (some a2) p c3) (.slice (some ⟨g, 0, none⟩) (m + j + 1) cap6) := by
            rcases hwhere with e | e
            · rcases AP with h | h
              · exact .inl h
              · refine .inr fun e2 => h ?_
                rw [e2, e]; rfl
            · cases hq : (Value.slice (some a2) p c3).ownBlock with
              | none => exact .inl hq
              | some b =>
                refine .inr fun e2 => ?_
                have h2 := (ownq6.lt b hq).2
                rw [hq] at e2
                have : b = g := Option.some.inj e2
                omega
          clear own7 own6 hgrow bel8 ownq6 AP hwhere
          go_wp2
          go_roundw
          case rel => exact ⟨j + 1, _, cap6, by omega, by go_num, rfl, own8, bel9, ownq7, AP2⟩
          case measure => simp [intOf]; omega
        · obtain rfl : j = p := by omega
          have l2 : ¬ (j : Int) < (j : Int) := by omega
          have TK := Lib.hid (show qs.take j = qs from List.take_of_length_le (by have := HP.out; omega))
          go_wp2
          go_roundw
          case rel => exact ⟨k + 1, m + j, by omega, by omega, by go_num, ⟨base', cap', rfl, Lib.hid (by rw [ET.out, EL.out, List.length_append, ← HM.out, ← HP.out]), by rw [ET.out, EL.out]; rw [TK.out] at own; exact own, bel⟩⟩
          case measure => simp [intOf]; omega
    · have l1 : ¬ (k : Int) < (n : Int) := by omega
      have E := Lib.hid (show sumE vs k = (vs.map elsF).flatten by unfold sumE; rw [List.take_of_length_le (by have := HN.out; omega)])
      go_wp2
      go_ret
      rw [E.out] at own HM
      have hm2 := HM.out
      have own2 := own_weaken own BEL1.out.size
      rw [hm2] at own2
      exact ⟨_, by rw [hm2]; rfl, own2, BEL1.out.trans (bel.mono BEL1.out.size)⟩
end Go.Proofs.YtdimjeajgmlfkaaDoor.Fi
