/-
  Contracts of the document's own laid, Answer and Ask. Conditions: at most 60 fields with texts of at most 2^13 bytes.
-/
import Derived.Test.YtdldoklkenhopaaDoorOuHead2
import Derived.Test.YtdldoklkenhopaaDoorOuLeaf
import Derived.Test.YtdldoklkenhopaaDoorHxRefD
import Derived.Test.YtdldoklkenhopaaDoorFiRefT
import Derived.Test.YtdldoklkenhopaaDoorFiRef
import Derived.Test.YtdldoklkenhopaaDoorFiTrim2
import Derived.Test.YtdldoklkenhopaaDoorInRefL
import Derived.Test.YtdldoklkenhopaaDoorOuApi
namespace Go.Proofs.YtdldoklkenhopaaDoor.Ou
open Go.RowKit Go.PlainAid
open Hx Fi Ch In
set_option linter.unusedVariables false
set_option maxRecDepth 20000
set_option linter.unusedSimpArgs false

def Short13 (xs : List Fi.Fd) : Prop := ∀ x ∈ xs, x.n.size ≤ 8192 ∧ x.v.size ≤ 8192
theorem good_cases (x : Fi.Fd) : (isTok (ls x.n) = false ∧ goodF x = false) ∨ (isTok (ls x.n) = true ∧ isTxt (ls x.v) = false ∧ goodF x = false) ∨ (isTok (ls x.n) = true ∧ isTxt (ls x.v) = true ∧ ((tx (trimT (ls x.v))).toList == x.v.toList) = false ∧ goodF x = false) ∨ (isTok (ls x.n) = true ∧ isTxt (ls x.v) = true ∧ ((tx (trimT (ls x.v))).toList == x.v.toList) = true ∧ goodF x = true) := by
  unfold goodF
  have e : ((tx (trimT (ls x.v))).toList == x.v.toList) = (trimT (ls x.v) == ls x.v) := by
    rw [ls_toList, ls_toList, ls_tx]
  rw [e]
  cases isTok (ls x.n) <;> cases isTxt (ls x.v) <;> cases (trimT (ls x.v) == ls x.v) <;> simp
theorem text_next (x : Fi.Fd) (S : ByteArray) : ls (S ++ x.n ++ (⟨#[58, 32]⟩ : ByteArray) ++ x.v ++ (⟨#[13, 10]⟩ : ByteArray)) = ls S ++ (printF x ++ [13, 10]) := by
  rw [ls_append, ls_append, ls_append, ls_append]
  unfold printF
  rw [show ls (⟨#[58, 32]⟩ : ByteArray) = [58, 32] from rfl, show ls (⟨#[13, 10]⟩ : ByteArray) = [13, 10] from rfl]
  simp
set_option maxRecDepth 100000 in
set_option maxHeartbeats 4000000 in
theorem laid_any {w : World} {v : Value} {xs : List Fi.Fd} (st : ByteArray) (hv : FdsAt w v xs) (hs : st.size ≤ 1048576) (hl : xs.length ≤ 60) (hr : Short13 xs) :
    Calls Tryd.prog 18 #[.string st, v] w fun e w' => e = .returned (.tuple #[.string (layS (ls st) xs), .int .i64 (layE (ls st) xs)]) ∧ Below w.heap.size w w' := by
  obtain ⟨base, cap, rfl, _, _⟩ := hv.is
  have HV := Lib.hid hv
  have HR := Lib.hid hr
  clear hv hr
  obtain ⟨n, hn⟩ : ∃ n, n = xs.length := ⟨_, rfl⟩
  rw [← hn] at HV hl ⊢
  have HN := Lib.hid hn
  clear hn
  by_cases h32 : 32 < n
  · obtain ⟨e1, e2⟩ := lay_many (st := ls st) (xs := xs) (by have := HN.out; omega)
    rw [e1, e2]
    clear e1 e2
    have l0 : (32 : Int) < (n : Int) := by omega
    go_enter Tryd.func18, Tryd.ntmps18
    go_wp2
    go_ret2
    exact ⟨rfl, Below.refl _ _⟩
  obtain ⟨LS, hLS⟩ : ∃ LS, layS (ls st) xs = LS := ⟨_, rfl⟩
  obtain ⟨LE, hLE⟩ : ∃ LE, layE (ls st) xs = LE := ⟨_, rfl⟩
  rw [hLS, hLE]
  have QS := Lib.hid hLS
  have QE := Lib.hid hLE
  clear hLS hLE
  have l0 : ¬ (32 : Int) < (n : Int) := by omega
  have z1 : (⟨#[13, 10]⟩ : ByteArray).size = 2 := rfl
  have z2 : (⟨#[58, 32]⟩ : ByteArray).size = 2 := rfl
  obtain ⟨S0, hS0⟩ : ∃ S0, st ++ (⟨#[13, 10]⟩ : ByteArray) = S0 := ⟨_, rfl⟩
  have y0 : S0.size ≤ 1048580 := by rw [← hS0, ByteArray.size_append, z1]; omega
  have K0 := Lib.hid (show ls S0 = outTo (ls st) xs 0 by rw [← hS0, ls_append, out_zero]; rfl)
  go_enter Tryd.func18, Tryd.ntmps18
  go_wp2
  have HS0 := Lib.hid hS0
  clear hS0
  go_loopw [6, 7] (fun s i wr => ∃ (k : Nat) (S : ByteArray), k ≤ n ∧ i = .int .i64 k ∧ s = .string S ∧ Hid (ls S = outTo (ls st) xs k) ∧ Hid (GoodTo xs k) ∧ S.size ≤ 1048580 + k * 20000 ∧ Below w.heap.size w wr) (fun _ i _ => n - (intOf i).toNat)
  case atStart => exact ⟨0, S0, Nat.zero_le _, rfl, rfl, K0, Lib.hid (by intro x hx; simp at hx), by omega, Below.refl _ _⟩
  case round =>
    clear K0 y0 HS0
    obtain ⟨k, S, hk, rfl, rfl, KS, HG, hS, bel⟩ := hrel
    by_cases hlt : k < n
    · have l1 : (k : Int) < (n : Int) := by omega
      obtain ⟨x, hx⟩ : ∃ x, xs[k]? = some x := ⟨xs[k]'(by have := HN.out; omega), List.getElem?_eq_getElem _⟩
      obtain ⟨a, rfl, ha, L1, _, _⟩ := (HV.out.below bel).loads hx
      obtain ⟨r1, r2⟩ := HR.out x (List.mem_of_getElem? hx)
      obtain ⟨w2, S2, A2, G2, Z2⟩ := fd_keep wr x
      have bel2 := bel.trans (G2.mono bel.size)
      have hz := bel.size
      have HX := Lib.hid hx
      clear hx bel G2 Z2
      generalize hB : wr.heap.size = B at S2 A2 hz
      go_upto_region 8 with (first | refine wpl_load L1 rfl rfl rfl ?_ | refine wpl_store S2 rfl rfl rfl (by rw [← hB]; rfl) rfl ?_)
      clear S2 L1 hB
      have c0 : w2.cell? ⟨B, 0, none⟩ = some (.string x.n) := A2.cell 0
      have c1 : w2.cell? ⟨B, 1, none⟩ = some (.string x.v) := A2.cell 1
      have tk := fun w => refIsToken_any x.n w (by omega)
      have tt := fun w => refText_any x.v w (by omega)
      have tr := fun w => refTrim_any x.v w (by omega)
      have gc := good_cases x
      obtain ⟨T, hT⟩ : ∃ T, tx (trimT (ls x.v)) = T := ⟨_, rfl⟩
      rw [hT] at tr gc
      clear hT
      rcases gc with ⟨g1, g⟩ | ⟨g1, g2, g⟩ | ⟨g1, g2, g3, g⟩ | ⟨g1, g2, g3, g⟩
      · obtain ⟨e1, e2⟩ := lay_form (st := ls st) (List.mem_of_getElem? HX.out) g
        rw [QE.out] at e1
        rw [QS.out] at e2
        rw [g1] at tk
        subst e1 e2
        clear g1 g
        go_quiet (first | with_reducible exact Calls.quiet_of_same (flipC (tk _)) | with_reducible exact Calls.quiet_of_same (flipC (tt _)) | with_reducible exact Calls.quiet_of_same (flipC (tr _)))
        have hb2 := bel_draws nq bel2
        clear bel2 c0 c1 A2 tk tt tr
        generalize w2.drewN nq = w3 at hb2 ⊢
        go_wp2
        go_ret2
        exact ⟨rfl, hb2⟩
      · obtain ⟨e1, e2⟩ := lay_form (st := ls st) (List.mem_of_getElem? HX.out) g
        rw [QE.out] at e1
        rw [QS.out] at e2
        rw [g1] at tk
        rw [g2] at tt
        subst e1 e2
        clear g1 g2 g
        go_quiet (first | with_reducible exact Calls.quiet_of_same (flipC (tk _)) | with_reducible exact Calls.quiet_of_same (flipC (tt _)) | with_reducible exact Calls.quiet_of_same (flipC (tr _)))
        have hb2 := bel_draws nq bel2
        clear bel2 c0 c1 A2 tk tt tr
        generalize w2.drewN nq = w3 at hb2 ⊢
        go_wp2
        go_ret2
        exact ⟨rfl, hb2⟩
      · obtain ⟨e1, e2⟩ := lay_form (st := ls st) (List.mem_of_getElem? HX.out) g
        rw [QE.out] at e1
        rw [QS.out] at e2
        rw [g1] at tk
        rw [g2] at tt
        subst e1 e2
        clear g1 g2 g
        go_quiet (first | with_reducible exact Calls.quiet_of_same (flipC (tk _)) | with_reducible exact Calls.quiet_of_same (flipC (tt _)) | with_reducible exact Calls.quiet_of_same (flipC (tr _)))
        have hb2 := bel_draws nq bel2
        clear bel2 c0 c1 A2 tk tt tr
        generalize w2.drewN nq = w3 at hb2 ⊢
        go_wp2
        go_ret2
        exact ⟨rfl, hb2⟩
      · have NX := Lib.hid (HG.out.succ HX.out g)
        have XX := Lib.hid (show ls (S ++ x.n ++ (⟨#[58, 32]⟩ : ByteArray) ++ x.v ++ (⟨#[13, 10]⟩ : ByteArray)) = outTo (ls st) xs (k + 1) by rw [text_next, KS.out, out_succ _ HX.out])
        rw [g1] at tk
        rw [g2] at tt
        clear g1 g2 g
        go_quiet (first | with_reducible exact Calls.quiet_of_same (flipC (tk _)) | with_reducible exact Calls.quiet_of_same (flipC (tt _)) | with_reducible exact Calls.quiet_of_same (flipC (tr _)))
        have hb2 := bel_draws nq bel2
        have d0 : (w2.drewN nq).cell? ⟨B, 0, none⟩ = some (.string x.n) := c0
        have d1 : (w2.drewN nq).cell? ⟨B, 1, none⟩ = some (.string x.v) := c1
        clear bel2 c0 c1 A2 tk tt tr
        generalize w2.drewN nq = w3 at hb2 d0 d1 ⊢
        obtain ⟨B1, hB1⟩ : ∃ B1, S ++ x.n = B1 := ⟨_, rfl⟩
        have y1 : B1.size = S.size + x.n.size := by rw [← hB1, ByteArray.size_append]
        obtain ⟨B2, hB2⟩ : ∃ B2, B1 ++ (⟨#[58, 32]⟩ : ByteArray) = B2 := ⟨_, rfl⟩
        have y2 : B2.size = S.size + x.n.size + 2 := by rw [← hB2, ByteArray.size_append, y1]; rfl
        obtain ⟨B3, hB3⟩ : ∃ B3, B2 ++ x.v = B3 := ⟨_, rfl⟩
        have y3 : B3.size = S.size + x.n.size + 2 + x.v.size := by rw [← hB3, ByteArray.size_append, y2]
        obtain ⟨B4, hB4⟩ : ∃ B4, B3 ++ (⟨#[13, 10]⟩ : ByteArray) = B4 := ⟨_, rfl⟩
        have y4 : B4.size = S.size + x.n.size + 2 + x.v.size + 2 := by rw [← hB4, ByteArray.size_append, y3]; rfl
        rw [hB1, hB2, hB3, hB4] at XX
        have v1 : B1.size ≤ 9223372036854775800 := by omega
        have v2 : B2.size ≤ 9223372036854775800 := by omega
        have v3 : B3.size ≤ 9223372036854775800 := by omega
        have v4 : B4.size ≤ 1048580 + (k + 1) * 20000 := by omega
        have HY := Lib.hid y4
        clear y4
        go_wp2
        go_roundw
        case rel => exact ⟨k + 1, B4, by omega, by go_num, rfl, XX, NX, v4, hb2⟩
        case measure => simp [intOf]; omega
    · have l1 : ¬ (k : Int) < (n : Int) := by omega
      have oa := out_all (ls st) (xs := xs) (k := k) (by have := HN.out; omega)
      have ga := HG.out.all (by have := HN.out; omega)
      obtain ⟨B1, hB1⟩ : ∃ B1, S ++ (⟨#[13, 10]⟩ : ByteArray) = B1 := ⟨_, rfl⟩
      have y1 : B1.size = S.size + 2 := by rw [← hB1, ByteArray.size_append]; rfl
      have lb : ls B1 = headF (ls st) xs := by rw [← hB1, ls_append, KS.out, ← oa]; rfl
      have lz : (headF (ls st) xs).length = B1.size := by rw [← lb, ls_len]
      by_cases c : 4096 < B1.size
      · obtain ⟨e1, e2⟩ := lay_long (st := ls st) (xs := xs) (by have := HN.out; omega) (List.all_eq_true.1 ga) (by omega)
        rw [QE.out] at e1
        rw [QS.out] at e2
        subst e1 e2
        have c' : (4096 : Int) < (B1.size : Int) := by omega
        have Y1 := Lib.hid y1
        clear oa ga lb lz y1
        go_wp2
        go_ret2
        exact ⟨rfl, bel⟩
      · obtain ⟨e1, e2⟩ := lay_good (st := ls st) (xs := xs) (by have := HN.out; omega) (List.all_eq_true.1 ga) (by omega)
        rw [← lb, tx_ls, QS.out] at e2
        rw [QE.out] at e1
        subst e1 e2
        have c' : ¬ (4096 : Int) < (LS.size : Int) := by omega
        have Y1 := Lib.hid y1
        clear oa ga lb lz y1
        go_wp2
        go_ret2
        exact ⟨rfl, bel⟩
end Go.Proofs.YtdldoklkenhopaaDoor.Ou
