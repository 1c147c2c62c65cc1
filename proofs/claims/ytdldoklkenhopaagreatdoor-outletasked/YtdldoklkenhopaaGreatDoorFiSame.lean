/-
  Contracts of Same and Texts of the document's answers: two rows of fields, two rows of texts, held against each other.
-/
import Derived.Test.YtdldoklkenhopaaGreatDoorSet3
namespace Go.Proofs.YtdldoklkenhopaaGreatDoor.Fi
open Go.RowKit Go.PlainAid
open Hx
set_option linter.unusedVariables false
set_option maxRecDepth 20000
set_option linter.unusedSimpArgs false

open Classical in
noncomputable def sameB (xs ys : List Fd) : Bool := decide (xs = ys)
open Classical in
theorem sameB_yes {xs ys : List Fd} (h : xs = ys) : sameB xs ys = true := by unfold sameB; exact decide_eq_true h
open Classical in
theorem sameB_no {xs ys : List Fd} (h : xs ≠ ys) : sameB xs ys = false := by unfold sameB; exact decide_eq_false h
structure TwoF (w0 w : World) (va vb : Value) (xs ys : List Fd) : Prop where
  a : FdsAt w va xs
  b : FdsAt w vb ys
  bel : Below w0.heap.size w0 w
theorem TwoF.drew {w0 w : World} {va vb : Value} {xs ys : List Fd} (h : TwoF w0 w va vb xs ys) : TwoF w0 w.drew va vb xs ys := ⟨h.a.below ((Below.refl _ _).drew), h.b.below ((Below.refl _ _).drew), h.bel.drew⟩
set_option maxHeartbeats 2000000 in
theorem sameR_any {w : World} {va vb : Value} {xs ys : List Fd} (ha : FdsAt w va xs) (hb : FdsAt w vb ys) (hl : xs.length ≤ 1099511627776) (hl2 : ys.length ≤ 1099511627776) :
    Calls Tryz.prog 10 #[va, vb] w fun e w' => e = .returned (.bool (sameB xs ys)) ∧ Below w.heap.size w w' := by
  by_cases hne : xs.length = ys.length
  · obtain ⟨b1, cap1, rfl, _, _⟩ := ha.is
    obtain ⟨b2, cap2, rfl, _, _⟩ := hb.is
    rw [← hne] at hb ⊢
    have HNE := Lib.hid hne
    clear hne hl2
    obtain ⟨r, hr⟩ : ∃ r, sameB xs ys = r := ⟨_, rfl⟩
    rw [hr]
    have HR := Lib.hid hr
    clear hr
    obtain ⟨n1, hn1⟩ : ∃ n1, n1 = xs.length := ⟨_, rfl⟩
    rw [← hn1] at ha hb hl ⊢
    have HN1 := Lib.hid hn1
    clear hn1
    have G0 : TwoF w w (.slice b1 n1 cap1) (.slice b2 n1 cap2) xs ys := ⟨ha, hb, Below.refl _ _⟩
    clear ha hb
    go_enter Tryz.func10, Tryz.ntmps10
    go_wp2
    go_loopw [5] (fun i wr => ∃ k : Nat, k ≤ n1 ∧ i = .int .i64 k ∧ Hid (xs.take k = ys.take k) ∧ TwoF w wr (.slice b1 n1 cap1) (.slice b2 n1 cap2) xs ys) (fun i _ => n1 - (intOf i).toNat)
    case atStart => exact ⟨0, Nat.zero_le _, rfl, Lib.hid rfl, G0⟩
    case round =>
      clear G0
      obtain ⟨k, hk, rfl, HT, G⟩ := hrel
      by_cases hlt : k < n1
      · obtain ⟨x, hx⟩ : ∃ x, xs[k]? = some x := ⟨xs[k]'(by have := HN1.out; omega), List.getElem?_eq_getElem _⟩
        obtain ⟨y, hy⟩ : ∃ y, ys[k]? = some y := ⟨ys[k]'(by have := HN1.out; have := HNE.out; omega), List.getElem?_eq_getElem _⟩
        have l1 : (k : Int) < (n1 : Int) := by omega
        obtain ⟨a1, rfl, _, _, _⟩ := G.a.loads hx
        obtain ⟨a2, rfl, _, _, _⟩ := G.b.loads hy
        cases hxy : @decide (x = y) (Classical.propDecidable _) with
        | true =>
          have exy : Hid (x = y) := Lib.hid (by simpa using hxy)
          have q1 := eq_fd x y
          rw [hxy] at q1
          go_upto_region 6 with (fail)
          refine wp_region_held (S := fun z => TwoF w z (.slice (some a1) n1 cap1) (.slice (some a2) n1 cap2) xs ys) (by kernel_rfl) ?_
          change wpAnyH _ _ _ _ _ _ _ _ wr.drew
          replace G := G.drew
          generalize wr.drew = w4 at G ⊢
          have LX : Hid (∀ z, TwoF w z (.slice (some a1) n1 cap1) (.slice (some a2) n1 cap2) xs ys → Loads Tryz.prog z 26 (a1.add (k * 2)) (fdV x)) := Lib.hid fun z j => by
            obtain ⟨a, e, _, h, _⟩ := j.a.loads hx
            injection e with e
            subst e
            exact h
          have LY : Hid (∀ z, TwoF w z (.slice (some a1) n1 cap1) (.slice (some a2) n1 cap2) xs ys → Loads Tryz.prog z 26 (a2.add (k * 2)) (fdV y)) := Lib.hid fun z j => by
            obtain ⟨a, e, _, h, _⟩ := j.b.loads hy
            injection e with e
            subst e
            exact h
          refine held_take 0 (.slice (some a1) n1 cap1) rfl (by kernel_rfl) (by kernel_rfl) (by kernel_rfl) (fun _ _ _ h => h) (Or.inl ⟨by rfl, fun x j => by go_simp⟩) G (fun K hK => ?_)
          go_simp
          refine hK _ _ ?_
          clear hK K
          refine held_take 1 (.int .i64 (k : Int)) rfl (by kernel_rfl) (by kernel_rfl) (by kernel_rfl) (fun _ _ _ h => h) (Or.inl ⟨by rfl, fun x j => by go_simp⟩) G (fun K hK => ?_)
          go_simp
          refine hK _ _ ?_
          clear hK K
          refine held_take 2 (.pointer (some (a1.add (k * 2)))) rfl (by kernel_rfl) (by kernel_rfl) (by kernel_rfl) (fun _ _ _ h => h) (Or.inl ⟨by rfl, fun x j => by go_simp⟩) G (fun K hK => ?_)
          go_simp
          refine hK _ _ ?_
          clear hK K
          refine held_take 3 (.agg (fdV x)) rfl (by kernel_rfl) (by kernel_rfl) (by kernel_rfl) (fun _ _ _ h => h) (yields_load LX.out rfl rfl rfl) G (fun K hK => ?_)
          go_simp
          refine hK _ _ ?_
          clear hK K
          refine held_take 4 (.slice (some a2) n1 cap2) rfl (by kernel_rfl) (by kernel_rfl) (by kernel_rfl) (fun _ _ _ h => h) (Or.inl ⟨by rfl, fun x j => by go_simp⟩) G (fun K hK => ?_)
          go_simp
          refine hK _ _ ?_
          clear hK K
          refine held_take 5 (.int .i64 (k : Int)) rfl (by kernel_rfl) (by kernel_rfl) (by kernel_rfl) (fun _ _ _ h => h) (Or.inl ⟨by rfl, fun x j => by go_simp⟩) G (fun K hK => ?_)
          go_simp
          refine hK _ _ ?_
          clear hK K
          refine held_take 6 (.pointer (some (a2.add (k * 2)))) rfl (by kernel_rfl) (by kernel_rfl) (by kernel_rfl) (fun _ _ _ h => h) (Or.inl ⟨by rfl, fun x j => by go_simp⟩) G (fun K hK => ?_)
          go_simp
          refine hK _ _ ?_
          clear hK K
          refine held_take 7 (.agg (fdV y)) rfl (by kernel_rfl) (by kernel_rfl) (by kernel_rfl) (fun _ _ _ h => h) (yields_load LY.out rfl rfl rfl) G (fun K hK => ?_)
          go_simp
          refine hK _ _ ?_
          clear hK K
          refine held_take 8 (.bool false) rfl (by kernel_rfl) (by kernel_rfl) (by kernel_rfl) (fun _ _ _ h => h) (Or.inl ⟨by rfl, fun x j => by go_simp⟩) G (fun K hK => ?_)
          go_simp
          refine hK _ _ ?_
          clear hK K
          refine wpAnyH_done (by kernel_rfl) ?_ _
          have HT2 : Hid (xs.take (k + 1) = ys.take (k + 1)) := Lib.hid (by rw [List.take_add_one, List.take_add_one, HT.out, hx, hy, exy.out])
          clear hx hy hxy exy q1
          go_wp2
          go_roundw
          case rel => exact ⟨k + 1, by omega, by go_num, HT2, G⟩
          case measure => simp [intOf]; omega
        | false =>
          have er : r = false := by
            rw [← HR.out]
            refine sameB_no fun e => ?_
            rw [e, hy] at hx
            have : x = y := (Option.some.inj hx).symm
            simp [this] at hxy
          subst er
          have q1 := eq_fd x y
          rw [hxy] at q1
          go_upto_region 6 with (fail)
          refine wp_region_held (S := fun z => TwoF w z (.slice (some a1) n1 cap1) (.slice (some a2) n1 cap2) xs ys) (by kernel_rfl) ?_
          change wpAnyH _ _ _ _ _ _ _ _ wr.drew
          replace G := G.drew
          generalize wr.drew = w4 at G ⊢
          have LX : Hid (∀ z, TwoF w z (.slice (some a1) n1 cap1) (.slice (some a2) n1 cap2) xs ys → Loads Tryz.prog z 26 (a1.add (k * 2)) (fdV x)) := Lib.hid fun z j => by
            obtain ⟨a, e, _, h, _⟩ := j.a.loads hx
            injection e with e
            subst e
            exact h
          have LY : Hid (∀ z, TwoF w z (.slice (some a1) n1 cap1) (.slice (some a2) n1 cap2) xs ys → Loads Tryz.prog z 26 (a2.add (k * 2)) (fdV y)) := Lib.hid fun z j => by
            obtain ⟨a, e, _, h, _⟩ := j.b.loads hy
            injection e with e
            subst e
            exact h
          refine held_take 0 (.slice (some a1) n1 cap1) rfl (by kernel_rfl) (by kernel_rfl) (by kernel_rfl) (fun _ _ _ h => h) (Or.inl ⟨by rfl, fun x j => by go_simp⟩) G (fun K hK => ?_)
          go_simp
          refine hK _ _ ?_
          clear hK K
          refine held_take 1 (.int .i64 (k : Int)) rfl (by kernel_rfl) (by kernel_rfl) (by kernel_rfl) (fun _ _ _ h => h) (Or.inl ⟨by rfl, fun x j => by go_simp⟩) G (fun K hK => ?_)
          go_simp
          refine hK _ _ ?_
          clear hK K
          refine held_take 2 (.pointer (some (a1.add (k * 2)))) rfl (by kernel_rfl) (by kernel_rfl) (by kernel_rfl) (fun _ _ _ h => h) (Or.inl ⟨by rfl, fun x j => by go_simp⟩) G (fun K hK => ?_)
          go_simp
          refine hK _ _ ?_
          clear hK K
          refine held_take 3 (.agg (fdV x)) rfl (by kernel_rfl) (by kernel_rfl) (by kernel_rfl) (fun _ _ _ h => h) (yields_load LX.out rfl rfl rfl) G (fun K hK => ?_)
          go_simp
          refine hK _ _ ?_
          clear hK K
          refine held_take 4 (.slice (some a2) n1 cap2) rfl (by kernel_rfl) (by kernel_rfl) (by kernel_rfl) (fun _ _ _ h => h) (Or.inl ⟨by rfl, fun x j => by go_simp⟩) G (fun K hK => ?_)
          go_simp
          refine hK _ _ ?_
          clear hK K
          refine held_take 5 (.int .i64 (k : Int)) rfl (by kernel_rfl) (by kernel_rfl) (by kernel_rfl) (fun _ _ _ h => h) (Or.inl ⟨by rfl, fun x j => by go_simp⟩) G (fun K hK => ?_)
          go_simp
          refine hK _ _ ?_
          clear hK K
          refine held_take 6 (.pointer (some (a2.add (k * 2)))) rfl (by kernel_rfl) (by kernel_rfl) (by kernel_rfl) (fun _ _ _ h => h) (Or.inl ⟨by rfl, fun x j => by go_simp⟩) G (fun K hK => ?_)
          go_simp
          refine hK _ _ ?_
          clear hK K
          refine held_take 7 (.agg (fdV y)) rfl (by kernel_rfl) (by kernel_rfl) (by kernel_rfl) (fun _ _ _ h => h) (yields_load LY.out rfl rfl rfl) G (fun K hK => ?_)
          go_simp
          refine hK _ _ ?_
          clear hK K
          refine held_take 8 (.bool true) rfl (by kernel_rfl) (by kernel_rfl) (by kernel_rfl) (fun _ _ _ h => h) (Or.inl ⟨by rfl, fun x j => by go_simp⟩) G (fun K hK => ?_)
          go_simp
          refine hK _ _ ?_
          clear hK K
          refine wpAnyH_done (by kernel_rfl) ?_ _
          clear hx hy hxy q1
          go_wp2
          go_ret
          exact ⟨rfl, G.bel⟩
      · have l1 : ¬ (k : Int) < (n1 : Int) := by omega
        have er : r = true := by
          rw [← HR.out]
          refine sameB_yes ?_
          have h1 := HT.out
          have := HN1.out; have := HNE.out
          rwa [List.take_of_length_le (by omega), List.take_of_length_le (by omega)] at h1
        subst er
        go_wp2
        go_ret
        exact ⟨rfl, G.bel⟩
  · obtain ⟨b1, cap1, rfl, _, _⟩ := ha.is
    obtain ⟨b2, cap2, rfl, _, _⟩ := hb.is
    rw [sameB_no (fun e => hne (by rw [e]))]
    have ne : ((xs.length : Int) != (ys.length : Int)) = true := by simp; omega
    have ne2 : ¬ (xs.length : Int) = (ys.length : Int) := by omega
    clear ha hb
    go_enter Tryz.func10, Tryz.ntmps10
    go_wp2
    go_ret
    exact ⟨rfl, Below.refl _ _⟩
open Classical in
noncomputable def textB (xs ys : List ByteArray) : Bool := decide (xs = ys)
open Classical in
theorem textB_yes {xs ys : List ByteArray} (h : xs = ys) : textB xs ys = true := by unfold textB; exact decide_eq_true h
open Classical in
theorem textB_no {xs ys : List ByteArray} (h : xs ≠ ys) : textB xs ys = false := by unfold textB; exact decide_eq_false h
structure TwoS (w0 w : World) (va vb : Value) (xs ys : List ByteArray) : Prop where
  a : StrsAt w va xs
  b : StrsAt w vb ys
  bel : Below w0.heap.size w0 w
theorem TwoS.drew {w0 w : World} {va vb : Value} {xs ys : List ByteArray} (h : TwoS w0 w va vb xs ys) : TwoS w0 w.drew va vb xs ys := ⟨h.a.below ((Below.refl _ _).drew), h.b.below ((Below.refl _ _).drew), h.bel.drew⟩
end Go.Proofs.YtdldoklkenhopaaGreatDoor.Fi
