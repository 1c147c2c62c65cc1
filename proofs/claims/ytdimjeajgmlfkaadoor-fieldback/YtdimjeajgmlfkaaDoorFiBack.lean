/-
  FieldBack, walked: a head is read as it was written; cut off anywhere it is not whole yet.
-/
import Derived.Test.YtdimjeajgmlfkaaDoorFiOpen
import Derived.Test.YtdimjeajgmlfkaaDoorFiGood
import Derived.Test.YtdimjeajgmlfkaaDoorFiLen
namespace Go.Proofs.YtdimjeajgmlfkaaDoor.Fi
open Go.RowKit Go.PlainAid
open Hx
set_option linter.unusedVariables false
set_option maxRecDepth 20000
set_option linter.unusedSimpArgs false

def sLine : ByteArray := ⟨#[115, 116, 97, 114, 116, 32, 108, 105, 110, 101]⟩
/-- the text of a head so far -/
def headTo (acc : List Fd) : List UInt8 := ls sLine ++ 13 :: 10 :: linesF acc
theorem headTo_end (acc : List Fd) : headTo acc ++ [13, 10] = headF (ls sLine) acc := by simp [headTo, headF]
theorem linesF_snoc (acc : List Fd) (f : Fd) : linesF (acc ++ [f]) = linesF acc ++ (printF f ++ [13, 10]) := by rw [linesF_append]; simp [linesF]
theorem headTo_snoc (acc : List Fd) (f : Fd) : headTo (acc ++ [f]) = headTo acc ++ (printF f ++ [13, 10]) := by
  unfold headTo
  rw [linesF_snoc]
  simp
theorem printF_len (f : Fd) : (printF f).length = f.n.size + f.v.size + 2 := by
  unfold printF
  simp only [List.length_append, ls_len, List.length_cons, List.length_nil]
  omega
structure Kept (S : ByteArray) (acc : List Fd) : Prop where
  s : ls S = headTo acc
  g : ∀ f ∈ acc, Good f
theorem Kept.step {S : ByteArray} {acc : List Fd} (h : Kept S acc) {f : Fd} (hg : goodF f = true) : Kept (S ++ tx (printF f) ++ ⟨#[13, 10]⟩) (acc ++ [f]) := by
  refine ⟨?_, fun x hx => ?_⟩
  · rw [headTo_snoc, ← h.s, ls_append, ls_append, ls_tx, List.append_assoc]; rfl
  · rcases List.mem_append.1 hx with hx | hx
    · exact h.g x hx
    · simp at hx; subst hx; exact (good_iff _).1 hg
def LaidPost (w : World) (e : Ending) (w' : World) : Prop :=
  ∃ (acc : List Fd) (v : Value), e = .returned (.tuple #[.string (tx (headF (ls sLine) acc)), v]) ∧ FdsAt w' v acc ∧ (∀ f ∈ acc, Good f) ∧ acc.length ≤ 32 ∧ Below w.heap.size w w'
set_option maxRecDepth 100000 in
set_option maxHeartbeats 4000000 in
theorem laid_any {w : World} {v : Value} {xs : List Fd} (hv : FdsAt w v xs) (hl : xs.length ≤ 60) (hs : ∀ x ∈ xs, x.n.size ≤ 200 ∧ x.v.size ≤ 200) :
    Calls Tryd.prog 32 #[.string ⟨#[115, 116, 97, 114, 116, 32, 108, 105, 110, 101]⟩, v, .int .i64 32] w (LaidPost w) := by
  obtain ⟨i0, hi, hz0, hz1, hz2⟩ := info_parts infoFd
  obtain ⟨base, cap, rfl, _, _⟩ := hv.is
  have HV := Lib.hid hv
  have HS := Lib.hid hs
  clear hv hs
  obtain ⟨n, hn⟩ : ∃ n, n = xs.length := ⟨_, rfl⟩
  rw [← hn] at HV hl ⊢
  have HN := Lib.hid hn
  clear hn
  have own0 : (w.alloc (.cells #[] 23)).ownsRow w.heap.size 23 2 (.slice (some ⟨w.heap.size, 0, none⟩) 0 0) 0 [] := World.ownsRow_made w #[] 0 (Nat.le_refl _) (Nat.zero_le _) rfl
  have bel0 : Below w.heap.size w (w.alloc (.cells #[] 23)) := (Below.refl _ _).alloc (Nat.le_refl _) _
  have z1 : (⟨#[13, 10]⟩ : ByteArray).size = 2 := rfl
  have K0 : Kept ((⟨#[115, 116, 97, 114, 116, 32, 108, 105, 110, 101]⟩ : ByteArray) ++ (⟨#[13, 10]⟩ : ByteArray)) [] := ⟨by rw [ls_append]; rfl, by simp⟩
  have zz : ((⟨#[115, 116, 97, 114, 116, 32, 108, 105, 110, 101]⟩ : ByteArray) ++ (⟨#[13, 10]⟩ : ByteArray)).size = 12 := by kernel_rfl
  go_enter Tryd.func32, Tryd.ntmps32
  go_wp2
  go_loopw [8, 9, 10] (fun sv v i wr => ∃ (k m : Nat) (S : ByteArray) (acc : List Fd) (b : Option Addr) (c : Nat), k ≤ n ∧ m ≤ 32 ∧ sv = .string S ∧ v = .slice b m c ∧ i = .int .i64 k ∧ Hid (m = acc.length) ∧ wr.ownsRow w.heap.size 23 2 (.slice b m c) m (fdsL acc) ∧ Below w.heap.size w wr ∧ Hid (Kept S acc) ∧ S.size ≤ 20 + m * 500) (fun _ _ i _ => n - (intOf i).toNat)
  case atStart => exact ⟨0, 0, _, [], _, 0, Nat.zero_le _, Nat.zero_le _, rfl, rfl, rfl, Lib.hid rfl, own0, bel0, Lib.hid K0, by rw [zz]; decide⟩
  case round =>
    clear own0 bel0 K0 zz
    obtain ⟨k, m, S, acc, b, c, hk, hm, rfl, rfl, rfl, HM, own, bel, KP, hS⟩ := hrel
    have hN := bel.size
    by_cases hlt : k < n
    · have l1 : (k : Int) < (n : Int) := by omega
      by_cases hfull : m < 32
      · have l2 : (m : Int) < 32 := by omega
        obtain ⟨x, hx⟩ : ∃ x, xs[k]? = some x := ⟨xs[k]'(by have := HN.out; omega), List.getElem?_eq_getElem _⟩
        obtain ⟨a, rfl, ha, L1, _, _⟩ := (HV.out.below bel).loads hx
        have hsz := HS.out x (List.mem_of_getElem? hx)
        have HX := Lib.hid hx
        clear hx
        have gd := fun w => good_any x w (by omega) (by omega)
        have pr := fun w => print_any x w (by omega) (by omega)
        cases hg : goodF x with
        | false =>
          rw [hg] at gd
          clear hg pr
          go_wp2_with (refine wpl_load L1 rfl rfl rfl ?_)
          refine (gd _).mono ?_
          rintro e w2 ⟨rfl, G⟩
          have bel2 := bel.trans (G.mono bel.size)
          have own2 := owns_below own G
          clear gd L1 bel own G
          go_wp2
          go_roundw
          case rel => exact ⟨k + 1, m, S, acc, b, c, by omega, hm, rfl, rfl, by go_num, HM, own2, bel2, KP, hS⟩
          case measure => simp [intOf]; omega
        | true =>
          have KS := Lib.hid (KP.out.step hg)
          rw [hg] at gd
          clear hg KP
          have hpl : (tx (printF x)).size ≤ 402 := by rw [tx_size, printF_len]; omega
          go_wp2_with (refine wpl_load L1 rfl rfl rfl ?_)
          refine (gd _).mono ?_
          rintro e w2 ⟨rfl, G⟩
          have bel2 := bel.trans (G.mono bel.size)
          have own2 := owns_below own G
          obtain ⟨a2, e2, _, L2, _, _⟩ := (HV.out.below bel2).loads HX.out
          injection e2 with e2
          subst e2
          clear gd L1 bel own G
          generalize tx (printF x) = P at pr hpl KS
          go_wp2_with (refine wpl_load L2 rfl rfl rfl ?_)
          refine (pr _).mono ?_
          rintro e w3 ⟨rfl, G⟩
          have bel3 := bel2.trans (G.mono bel2.size)
          have own3 := owns_below own2 G
          obtain ⟨a3, e3, _, L3, _, _⟩ := (HV.out.below bel3).loads HX.out
          injection e3 with e3
          subst e3
          have hN3 := bel3.size
          clear pr L2 bel2 own2 G
          go_upto_region 8 with (fail)
          go_upto_region 5 with (first | refine wpl_load L3 rfl rfl rfl ?_ | refine wpl_build (fdV_size x) rfl rfl rfl ?_ | (at_builtin; refine wpList_append_own _ rfl _ _ 35 rfl w.heap.size 23 i0 (.agg #[.string ⟨#[]⟩, .string ⟨#[]⟩]) 2 32 Tryd.underlying35 hi hz0 hz1 hz2 rfl (by decide) _ _ _ rfl (own3.alloc _) ⟨w3.heap.size, 0, none⟩ 1 1 (fdL x) rfl ?c0 ?c1 (fdL_one x) ?c3 ?c4 ?c5 ?_))
          case c0 => rfl
          case c1 => exact new_fd w3 x
          case c3 => unfold maxLen; omega
          case c4 => omega
          case c5 => simp; omega
          intro v' w4 own4 hgrow _
          have own5 : w4.ownsRow w.heap.size 23 2 v' (m + 1) (fdsL (acc ++ [x])) := by
            rw [fdsL_snoc]
            exact own4
          have bel5 := (bel3.alloc hN3 (.cells (fdV x) 23)).grown hgrow (by simp; omega) (fun j hj => (own3.lt j hj).1)
          clear own4 own3 bel3 hgrow L3
          obtain ⟨b', c', rfl⟩ := own_shape own5
          have hS2 : (S ++ P ++ (⟨#[13, 10]⟩ : ByteArray)).size ≤ 20 + (m + 1) * 500 := by
            rw [ByteArray.size_append, ByteArray.size_append, z1]; omega
          go_wp2
          go_roundw
          case rel => exact ⟨k + 1, m + 1, _, acc ++ [x], b', c', by omega, by omega, rfl, rfl, by go_num, Lib.hid (by rw [List.length_append, ← HM.out]; rfl), own5, bel5, KS, hS2⟩
          case measure => simp [intOf]; omega
      · have l2 : ¬ (m : Int) < 32 := by omega
        have V : FdsAt wr (.slice b m c) acc := by
          have := HM.out
          subst this
          exact owns_fds own
        have HD := Lib.hid (show S ++ (⟨#[13, 10]⟩ : ByteArray) = tx (headF (ls sLine) acc) from ls_inj (by rw [ls_append, KP.out.s, ls_tx, ← headTo_end]; rfl))
        have KG := Lib.hid KP.out.g
        clear own KP
        go_wp2
        go_ret2
        exact ⟨acc, _, by rw [← HD.out]; rfl, V, KG.out, by have := HM.out; omega, bel⟩
    · have l1 : ¬ (k : Int) < (n : Int) := by omega
      have V : FdsAt wr (.slice b m c) acc := by
        have := HM.out
        subst this
        exact owns_fds own
      have HD := Lib.hid (show S ++ (⟨#[13, 10]⟩ : ByteArray) = tx (headF (ls sLine) acc) from ls_inj (by rw [ls_append, KP.out.s, ls_tx, ← headTo_end]; rfl))
      have KG := Lib.hid KP.out.g
      clear own KP
      go_wp2
      go_ret2
      exact ⟨acc, _, by rw [← HD.out]; rfl, V, KG.out, by have := HM.out; omega, bel⟩
end Go.Proofs.YtdimjeajgmlfkaaDoor.Fi
