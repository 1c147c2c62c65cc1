/-
  Rows of slips: Same, of the document; an argument that is a slip, or a row of slips.
-/
import Derived.Test.YtdmgobffhpgjlaaGreatSlB
import Derived.SliceStrings
import Derived.Deep.Slices
import Derived.Deep.WholeRow

namespace Go.Proofs.YtdmgobffhpgjlaaGreat.Sl
open Go.RowKit Go.PlainAid Go.Proofs.YtdmgobffhpgjlaaGreat.Cr
set_option linter.unusedVariables false
set_option maxRecDepth 20000
set_option linter.unusedSimpArgs false

/-- v reads as the row of slips xs in w -/
structure SlsAt (w : World) (v : Value) (xs : List Sp) : Prop where
  is : ∃ base cap, v = .slice base xs.length cap ∧ xs.length ≤ cap ∧ ∀ j x, xs[j]? = some x → ∃ a : Addr, base = some a ∧ a.block < w.heap.size ∧ ∀ i c, (slV x)[i]? = some c → w.cell? ((a.add (j * 38)).add i) = some c
  ok : ∀ x ∈ xs, Okay x
theorem SlsAt.below {w w' : World} {v : Value} {xs : List Sp} (h : SlsAt w v xs) (hb : Below w.heap.size w w') : SlsAt w' v xs := by
  obtain ⟨base, cap, rfl, hl, hc⟩ := h.is
  refine ⟨⟨base, cap, rfl, hl, fun j x hj => ?_⟩, h.ok⟩
  obtain ⟨a, rfl, ha, hcell⟩ := hc j x hj
  refine ⟨a, rfl, Nat.lt_of_lt_of_le ha hb.size, fun i c hi => ?_⟩
  rw [World.cell?_of_block (w := w) (by rw [add_block, add_block]; exact hb.block _ ha)]
  exact hcell i c hi
theorem none_sls (w : World) : SlsAt w (.slice none 0 0) [] := ⟨⟨none, 0, rfl, Nat.le_refl _, by simp⟩, by simp⟩
theorem loads_sl {w : World} {a : Addr} {x : Sp} (hd : x.dig.length = 32) (h : ∀ i c, (slV x)[i]? = some c → w.cell? (a.add i) = some c) : Loads Tryz.prog w 39 a (slV x) := by
  unfold Loads loadVar
  have hl := run_loadCells_list (P := Tryz.prog) w a (slL x) (fun j v hv => h j v (by simpa [slV] using hv))
  have hz : (sizeOf 39).run Tryz.prog w = .ok 38 w := size_of (by kernel_rfl) w
  rw [slL_len hd] at hl
  simp only [Sem.run_bind, run_isAgg (P := Tryz.prog) (t := 39) (by kernel_rfl) w, Result.andThen_ok, if_true, hz]
  rw [hl]
  rfl
theorem SlsAt.loads {w : World} {base : Option Addr} {n cap : Nat} {xs : List Sp} (h : SlsAt w (.slice base n cap) xs) {j : Nat} {x : Sp} (hj : xs[j]? = some x) : ∃ a : Addr, base = some a ∧ a.block < w.heap.size ∧ Loads Tryz.prog w 39 (a.add (j * 38)) (slV x) := by
  obtain ⟨base', cap', e, hl, hc⟩ := h.is
  injection e with e1 e2 e3
  subst e1
  obtain ⟨a, rfl, ha, hcell⟩ := hc j x hj
  exact ⟨a, rfl, ha, loads_sl (h.ok x (List.mem_of_getElem? hj)).dig.len hcell⟩
theorem SlsAt.len {w : World} {base : Option Addr} {n cap : Nat} {xs : List Sp} (h : SlsAt w (.slice base n cap) xs) : n = xs.length ∧ n ≤ cap := by
  obtain ⟨base', cap', e, hl, hc⟩ := h.is
  injection e with e1 e2 e3
  subst e2 e3
  exact ⟨rfl, hl⟩
theorem SlsAt.take {w : World} {base : Option Addr} {n cap m : Nat} {xs : List Sp} (h : SlsAt w (.slice base n cap) xs) (hm : m ≤ n) : SlsAt w (.slice base m cap) (xs.take m) := by
  obtain ⟨base', cap', e, hl, hc⟩ := h.is
  injection e with e1 e2 e3
  subst e1 e2 e3
  refine ⟨⟨base, cap, by rw [List.length_take, Nat.min_eq_left hm], by rw [List.length_take]; omega, fun j x hj => ?_⟩, fun x hx => h.ok x (List.mem_of_mem_take hx)⟩
  rw [List.getElem?_take] at hj
  split at hj
  · exact hc j x hj
  · cases hj
section
variable {P : Program} {md : Region.Mode} {ops : Array Oper} {Q : Exit → Act → World → Prop} {S : World → Prop} {i fuel : Nat} {listed : Array Bool} {a : Act} {w : World} {oi : Oper}
end
open Classical in
noncomputable def sameB (xs ys : List Sp) : Bool := decide (xs = ys)
open Classical in
theorem sameB_yes {xs ys : List Sp} (h : xs = ys) : sameB xs ys = true := by unfold sameB; exact decide_eq_true h
open Classical in
theorem sameB_no {xs ys : List Sp} (h : xs ≠ ys) : sameB xs ys = false := by unfold sameB; exact decide_eq_false h
structure Two (w0 w : World) (va vb : Value) (xs ys : List Sp) : Prop where
  a : SlsAt w va xs
  b : SlsAt w vb ys
  bel : Below w0.heap.size w0 w
theorem Two.drew {w0 w : World} {va vb : Value} {xs ys : List Sp} (h : Two w0 w va vb xs ys) : Two w0 w.drew va vb xs ys := ⟨h.a.below ((Below.refl _ _).drew), h.b.below ((Below.refl _ _).drew), h.bel.drew⟩
set_option maxHeartbeats 2000000 in
theorem same_any {w : World} {va vb : Value} {xs ys : List Sp} (ha : SlsAt w va xs) (hb : SlsAt w vb ys) (hl : xs.length ≤ 1099511627776) (hl2 : ys.length ≤ 1099511627776) :
    Calls Tryz.prog 10 #[va, vb] w fun e w' => e = .returned (.bool (sameB xs ys)) ∧ Below w.heap.size w w' := by
  by_cases hne : xs.length = ys.length
  · obtain ⟨b1, cap1, rfl, _, _⟩ := ha.is
    obtain ⟨b2, cap2, rfl, _, _⟩ := hb.is
    have OKX := Lib.hid ha.ok
    have OKY := Lib.hid hb.ok
    rw [← hne] at hb ⊢
    have HNE := Lib.hid hne
    clear hne hl2
    obtain ⟨r, hr⟩ : ∃ r, sameB xs ys = r := ⟨_, rfl⟩
    rw [hr]
    have HR := Lib.hid hr
    clear hr
    obtain ⟨n1, hn1⟩ : ∃ n1, n1 = xs.length := ⟨_, rfl⟩
    rw [← hn1] at ha hb hl ⊢
    have HN1 := Lib.hid hn1
    clear hn1
    have G0 : Two w w (.slice b1 n1 cap1) (.slice b2 n1 cap2) xs ys := ⟨ha, hb, Below.refl _ _⟩
    clear ha hb
    go_enter Tryz.func10, Tryz.ntmps10
    go_wp2
    go_loopw [5] (fun i wr => ∃ k : Nat, k ≤ n1 ∧ i = .int .i64 k ∧ Hid (xs.take k = ys.take k) ∧ Two w wr (.slice b1 n1 cap1) (.slice b2 n1 cap2) xs ys) (fun i _ => n1 - (intOf i).toNat)
    case atStart => exact ⟨0, Nat.zero_le _, rfl, rfl, G0⟩
    case round =>
      clear G0
      obtain ⟨k, hk, rfl, HT, G⟩ := hrel
      by_cases hlt : k < n1
      · obtain ⟨x, hx⟩ : ∃ x, xs[k]? = some x := ⟨xs[k]'(by have := HN1.out; omega), List.getElem?_eq_getElem _⟩
        obtain ⟨y, hy⟩ : ∃ y, ys[k]? = some y := ⟨ys[k]'(by have := HN1.out; have := HNE.out; omega), List.getElem?_eq_getElem _⟩
        have l1 : (k : Int) < (n1 : Int) := by omega
        obtain ⟨a1, rfl, _, _⟩ := G.a.loads hx
        obtain ⟨a2, rfl, _, _⟩ := G.b.loads hy
        cases hxy : @decide (x = y) (Classical.propDecidable _) with
        | true =>
          have exy : Hid (x = y) := Lib.hid (by simpa using hxy)
          have q1 := eq_slip (OKX.out x (List.mem_of_getElem? hx)).dig (OKY.out y (List.mem_of_getElem? hy)).dig
          rw [hxy] at q1
          go_upto_region 6 with (fail)
          refine wp_region_held (S := fun z => Two w z (.slice (some a1) n1 cap1) (.slice (some a2) n1 cap2) xs ys) (by kernel_rfl) ?_
          change wpAnyH _ _ _ _ _ _ _ _ wr.drew
          replace G := G.drew
          generalize wr.drew = w4 at G ⊢
          have LX : Hid (∀ z, Two w z (.slice (some a1) n1 cap1) (.slice (some a2) n1 cap2) xs ys → Loads Tryz.prog z 39 (a1.add (k * 38)) (slV x)) := Lib.hid fun z j => by
            obtain ⟨a, e, _, h⟩ := j.a.loads hx
            injection e with e
            subst e
            exact h
          have LY : Hid (∀ z, Two w z (.slice (some a1) n1 cap1) (.slice (some a2) n1 cap2) xs ys → Loads Tryz.prog z 39 (a2.add (k * 38)) (slV y)) := Lib.hid fun z j => by
            obtain ⟨a, e, _, h⟩ := j.b.loads hy
            injection e with e
            subst e
            exact h
          refine held_take 0 (.slice (some a1) n1 cap1) rfl (by kernel_rfl) (by kernel_rfl) (by kernel_rfl) (fun _ _ _ h => h) (Or.inl ⟨by rfl, fun x j => by go_simp⟩) G (fun K hK => ?_)
          go_simp
          refine hK _ _ ?_
          clear hK K
          refine held_take 1 (.int .i64 (k : Int)) rfl (by kernel_rfl) (by kernel_rfl) (by kernel_rfl) (fun _ _ _ h => h) (Or.inl ⟨by rfl, fun x j => by go_simp⟩) G (fun K hK => ?_)
          go_simp
          refine hK _ _ ?_
          clear hK K
          refine held_take 2 (.pointer (some (a1.add (k * 38)))) rfl (by kernel_rfl) (by kernel_rfl) (by kernel_rfl) (fun _ _ _ h => h) (Or.inl ⟨by rfl, fun x j => by go_simp⟩) G (fun K hK => ?_)
          go_simp
          refine hK _ _ ?_
          clear hK K
          refine held_take 3 (.agg (slV x)) rfl (by kernel_rfl) (by kernel_rfl) (by kernel_rfl) (fun _ _ _ h => h) (yields_load LX.out rfl rfl rfl) G (fun K hK => ?_)
          go_simp
          refine hK _ _ ?_
          clear hK K
          refine held_take 4 (.slice (some a2) n1 cap2) rfl (by kernel_rfl) (by kernel_rfl) (by kernel_rfl) (fun _ _ _ h => h) (Or.inl ⟨by rfl, fun x j => by go_simp⟩) G (fun K hK => ?_)
          go_simp
          refine hK _ _ ?_
          clear hK K
          refine held_take 5 (.int .i64 (k : Int)) rfl (by kernel_rfl) (by kernel_rfl) (by kernel_rfl) (fun _ _ _ h => h) (Or.inl ⟨by rfl, fun x j => by go_simp⟩) G (fun K hK => ?_)
          go_simp
          refine hK _ _ ?_
          clear hK K
          refine held_take 6 (.pointer (some (a2.add (k * 38)))) rfl (by kernel_rfl) (by kernel_rfl) (by kernel_rfl) (fun _ _ _ h => h) (Or.inl ⟨by rfl, fun x j => by go_simp⟩) G (fun K hK => ?_)
          go_simp
          refine hK _ _ ?_
          clear hK K
          refine held_take 7 (.agg (slV y)) rfl (by kernel_rfl) (by kernel_rfl) (by kernel_rfl) (fun _ _ _ h => h) (yields_load LY.out rfl rfl rfl) G (fun K hK => ?_)
          go_simp
          refine hK _ _ ?_
          clear hK K
          refine held_take 8 (.bool false) rfl (by kernel_rfl) (by kernel_rfl) (by kernel_rfl) (fun _ _ _ h => h) (Or.inl ⟨by rfl, fun x j => by go_simp⟩) G (fun K hK => ?_)
          go_simp
          refine hK _ _ ?_
          clear hK K
          refine wpAnyH_done (by kernel_rfl) ?_ _
          have HT2 : Hid (xs.take (k + 1) = ys.take (k + 1)) := Lib.hid (by rw [List.take_add_one, List.take_add_one, HT.out, hx, hy, exy.out])
          clear hx hy hxy exy q1
          go_wp2
          go_roundw
          case rel => exact ⟨k + 1, by omega, by go_num, HT2, G⟩
          case measure => simp [intOf]; omega
        | false =>
          have er : r = false := by
            rw [← HR.out]
            refine sameB_no fun e => ?_
            rw [e, hy] at hx
            have : x = y := (Option.some.inj hx).symm
            simp [this] at hxy
          subst er
          have q1 := eq_slip (OKX.out x (List.mem_of_getElem? hx)).dig (OKY.out y (List.mem_of_getElem? hy)).dig
          rw [hxy] at q1
          go_upto_region 6 with (fail)
          refine wp_region_held (S := fun z => Two w z (.slice (some a1) n1 cap1) (.slice (some a2) n1 cap2) xs ys) (by kernel_rfl) ?_
          change wpAnyH _ _ _ _ _ _ _ _ wr.drew
          replace G := G.drew
          generalize wr.drew = w4 at G ⊢
          have LX : Hid (∀ z, Two w z (.slice (some a1) n1 cap1) (.slice (some a2) n1 cap2) xs ys → Loads Tryz.prog z 39 (a1.add (k * 38)) (slV x)) := Lib.hid fun z j => by
            obtain ⟨a, e, _, h⟩ := j.a.loads hx
            injection e with e
            subst e
            exact h
          have LY : Hid (∀ z, Two w z (.slice (some a1) n1 cap1) (.slice (some a2) n1 cap2) xs ys → Loads Tryz.prog z 39 (a2.add (k * 38)) (slV y)) := Lib.hid fun z j => by
            obtain ⟨a, e, _, h⟩ := j.b.loads hy
            injection e with e
            subst e
            exact h
          refine held_take 0 (.slice (some a1) n1 cap1) rfl (by kernel_rfl) (by kernel_rfl) (by kernel_rfl) (fun _ _ _ h => h) (Or.inl ⟨by rfl, fun x j => by go_simp⟩) G (fun K hK => ?_)
          go_simp
          refine hK _ _ ?_
          clear hK K
          refine held_take 1 (.int .i64 (k : Int)) rfl (by kernel_rfl) (by kernel_rfl) (by kernel_rfl) (fun _ _ _ h => h) (Or.inl ⟨by rfl, fun x j => by go_simp⟩) G (fun K hK => ?_)
          go_simp
          refine hK _ _ ?_
          clear hK K
          refine held_take 2 (.pointer (some (a1.add (k * 38)))) rfl (by kernel_rfl) (by kernel_rfl) (by kernel_rfl) (fun _ _ _ h => h) (Or.inl ⟨by rfl, fun x j => by go_simp⟩) G (fun K hK => ?_)
          go_simp
          refine hK _ _ ?_
          clear hK K
          refine held_take 3 (.agg (slV x)) rfl (by kernel_rfl) (by kernel_rfl) (by kernel_rfl) (fun _ _ _ h => h) (yields_load LX.out rfl rfl rfl) G (fun K hK => ?_)
          go_simp
          refine hK _ _ ?_
          clear hK K
          refine held_take 4 (.slice (some a2) n1 cap2) rfl (by kernel_rfl) (by kernel_rfl) (by kernel_rfl) (fun _ _ _ h => h) (Or.inl ⟨by rfl, fun x j => by go_simp⟩) G (fun K hK => ?_)
          go_simp
          refine hK _ _ ?_
          clear hK K
          refine held_take 5 (.int .i64 (k : Int)) rfl (by kernel_rfl) (by kernel_rfl) (by kernel_rfl) (fun _ _ _ h => h) (Or.inl ⟨by rfl, fun x j => by go_simp⟩) G (fun K hK => ?_)
          go_simp
          refine hK _ _ ?_
          clear hK K
          refine held_take 6 (.pointer (some (a2.add (k * 38)))) rfl (by kernel_rfl) (by kernel_rfl) (by kernel_rfl) (fun _ _ _ h => h) (Or.inl ⟨by rfl, fun x j => by go_simp⟩) G (fun K hK => ?_)
          go_simp
          refine hK _ _ ?_
          clear hK K
          refine held_take 7 (.agg (slV y)) rfl (by kernel_rfl) (by kernel_rfl) (by kernel_rfl) (fun _ _ _ h => h) (yields_load LY.out rfl rfl rfl) G (fun K hK => ?_)
          go_simp
          refine hK _ _ ?_
          clear hK K
          refine held_take 8 (.bool true) rfl (by kernel_rfl) (by kernel_rfl) (by kernel_rfl) (fun _ _ _ h => h) (Or.inl ⟨by rfl, fun x j => by go_simp⟩) G (fun K hK => ?_)
          go_simp
          refine hK _ _ ?_
          clear hK K
          refine wpAnyH_done (by kernel_rfl) ?_ _
          clear hx hy hxy q1
          go_wp2
          go_ret
          exact ⟨rfl, G.bel⟩
      · have l1 : ¬ (k : Int) < (n1 : Int) := by omega
        have er : r = true := by
          rw [← HR.out]
          refine sameB_yes ?_
          have h1 := HT.out
          have := HN1.out; have := HNE.out
          rwa [List.take_of_length_le (by omega), List.take_of_length_le (by omega)] at h1
        subst er
        go_wp2
        go_ret
        exact ⟨rfl, G.bel⟩
  · obtain ⟨b1, cap1, rfl, _, _⟩ := ha.is
    obtain ⟨b2, cap2, rfl, _, _⟩ := hb.is
    rw [sameB_no (fun e => hne (by rw [e]))]
    have ne : ((xs.length : Int) != (ys.length : Int)) = true := by simp; omega
    have ne2 : ¬ (xs.length : Int) = (ys.length : Int) := by omega
    clear ha hb
    go_enter Tryz.func10, Tryz.ntmps10
    go_wp2
    go_ret
    exact ⟨rfl, Below.refl _ _⟩
end Go.Proofs.YtdmgobffhpgjlaaGreat.Sl
