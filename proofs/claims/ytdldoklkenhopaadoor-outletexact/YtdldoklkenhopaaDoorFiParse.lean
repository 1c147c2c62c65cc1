/-
  Contracts of Parse and Print of package field.
-/
import Derived.Test.YtdldoklkenhopaaDoorFiSuf
import Derived.Test.YtdldoklkenhopaaDoorFiTrim2
namespace Go.Proofs.YtdldoklkenhopaaDoor.Fi
open Go.RowKit Go.PlainAid
open Hx
set_option linter.unusedVariables false
set_option maxRecDepth 20000
set_option linter.unusedSimpArgs false

def zFd : Array Value := #[.string ⟨#[]⟩, .string ⟨#[]⟩]
theorem zFd_is : zFd = fdV Fd.zero := rfl
theorem fd_stores {w : World} {B : Nat} {f g : Fd} (h : At w B 26 (fdV f)) : Stores Tryd.prog w 26 B 0 (fdV g) (w.setRow B (fdV g)) :=
  h.stores (by rw [fdV_size]; kernel_rfl) rfl (fdV_one g)
/-- the field of a line, and the error's number -/
def pF (l : List UInt8) : Fd := (parseF l).getD Fd.zero
def pE (l : List UInt8) : Int := if (parseF l).isSome then 0 else 3
theorem p_none {l : List UInt8} (h : parseF l = none) : pF l = Fd.zero ∧ pE l = 3 := by unfold pF pE; rw [h]; exact ⟨rfl, rfl⟩
theorem p_some {l : List UInt8} {f : Fd} (h : parseF l = some f) : pF l = f ∧ pE l = 0 := by unfold pF pE; rw [h]; exact ⟨rfl, rfl⟩
theorem parseF_cut_none {l : List UInt8} (h : cutB 58 l = none) : parseF l = none := by unfold parseF; rw [h]
theorem parseF_cut_bad {l x y : List UInt8} (h : cutB 58 l = some (x, y)) (hb : ¬ (isTok x = true ∧ isTxt y = true)) : parseF l = none := by unfold parseF; rw [h]; simp only; rw [if_neg hb]
theorem parseF_cut {l x y : List UInt8} (h : cutB 58 l = some (x, y)) (h1 : isTok x = true) (h2 : isTxt y = true) : parseF l = some ⟨tx x, tx (trimT y)⟩ := by unfold parseF; rw [h]; simp only; rw [if_pos ⟨h1, h2⟩]
theorem cutB_len {b : UInt8} {l x y : List UInt8} (h : cutB b l = some (x, y)) : x.length + y.length < l.length := by
  rw [(cutB_some h).1]; simp
theorem parseF_le {l : List UInt8} {f : Fd} (h : parseF l = some f) : f.n.size ≤ l.length ∧ f.v.size ≤ l.length := by
  unfold parseF at h
  cases hc : cutB 58 l with
  | none => rw [hc] at h; cases h
  | some p =>
    obtain ⟨x, y⟩ := p
    rw [hc] at h
    simp only at h
    split at h
    · have := cutB_len hc
      have := trimT_le y
      simp only [Option.some.injEq] at h
      subst h
      simp only [tx_size]
      omega
    · cases h
def ParsePost (l : List UInt8) (w : World) (e : Ending) (w' : World) : Prop := e = .returned (.tuple #[.agg (fdV (pF l)), .int .i64 (pE l)]) ∧ Below w.heap.size w w'
set_option maxHeartbeats 1000000 in
theorem parse_any (s : ByteArray) (w : World) (hs : s.size ≤ 1099511627776) :
    Calls Tryd.prog 39 #[.string s] w (ParsePost (ls s) w) := by
  have A0 := At.new w 26 zFd
  have F0 : Below w.heap.size w (w.alloc (.cells zFd 26)) := (Below.refl _ _).alloc (Nat.le_refl _) _
  cases hc : cutB 58 (ls s) with
  | none =>
    have P := Lib.hid (p_none (parseF_cut_none hc))
    have HC := Lib.hid hc
    clear hc
    go_enter Tryd.func39, Tryd.ntmps39
    go_upto_region 1 with (fail)
    unfold zFd at A0 F0
    generalize w.alloc (.cells #[.string ⟨#[]⟩, .string ⟨#[]⟩] 26) = w0 at A0 F0 ⊢
    go_wp2_with fail
    refine (cut_no s 58 _ hs HC.out).mono ?_
    rintro e w1 ⟨rfl, G⟩
    have A1 : At w1 w.heap.size 26 (fdV Fd.zero) := A0.old G
    have F1 := F0.trans (G.mono F0.size)
    clear A0 F0 G
    have S2 := fd_stores (g := Fd.zero) A1
    have A2 := A1.row (fdV Fd.zero)
    have F2 : Below w.heap.size w (w1.setRow w.heap.size (fdV Fd.zero)) := below_row F1 (Nat.le_refl _)
    clear A1 F1
    generalize w1.setRow w.heap.size (fdV Fd.zero) = w2 at S2 A2 F2
    go_wp2_with (refine wpl_store S2 rfl rfl rfl rfl rfl ?_)
    exact bodyPost_ret (results_cell_tmp Tryd.results39 _ rfl rfl (fd_loads A2)) rfl ⟨by rw [P.out.1, P.out.2]; rfl, F2⟩
  | some p =>
    obtain ⟨x, y⟩ := p
    have hlen := cutB_len hc
    rw [ls_len] at hlen
    have HC := Lib.hid hc
    have tok := isToken_any (tx x)
    rw [ls_tx, tx_size] at tok
    have txt := texts_any (tx y)
    rw [ls_tx, tx_size] at txt
    cases h1 : isTok x with
    | false =>
      have P := Lib.hid (p_none (parseF_cut_bad hc (by rw [h1]; simp)))
      rw [h1] at tok
      clear hc h1 txt
      go_enter Tryd.func39, Tryd.ntmps39
      go_upto_region 1 with (fail)
      unfold zFd at A0 F0
      generalize w.alloc (.cells #[.string ⟨#[]⟩, .string ⟨#[]⟩] 26) = w0 at A0 F0 ⊢
      go_wp2_with fail
      refine (cut_yes s 58 _ hs HC.out).mono ?_
      rintro e w1 ⟨rfl, G⟩
      have A1 : At w1 w.heap.size 26 (fdV Fd.zero) := A0.old G
      have F1 := F0.trans (G.mono F0.size)
      clear A0 F0 G
      have tok1 := tok w1 (by omega)
      clear tok
      generalize tx x = X at tok1 ⊢
      generalize tx y = Y at ⊢
      go_wp2_with fail
      refine tok1.mono ?_
      rintro e w' ⟨rfl, rfl⟩
      clear tok1
      have S2 := fd_stores (g := Fd.zero) A1
      have A2 := A1.row (fdV Fd.zero)
      have F2 : Below w.heap.size w (w1.setRow w.heap.size (fdV Fd.zero)) := below_row F1 (Nat.le_refl _)
      clear A1 F1
      generalize w1.setRow w.heap.size (fdV Fd.zero) = w2 at S2 A2 F2
      go_wp2_with (refine wpl_store S2 rfl rfl rfl rfl rfl ?_)
      exact bodyPost_ret (results_cell_tmp Tryd.results39 _ rfl rfl (fd_loads A2)) rfl ⟨by rw [P.out.1, P.out.2]; rfl, F2⟩
    | true =>
      rw [h1] at tok
      cases h2 : isTxt y with
      | false =>
        have P := Lib.hid (p_none (parseF_cut_bad hc (by rw [h2]; simp)))
        rw [h2] at txt
        clear hc h1 h2
        go_enter Tryd.func39, Tryd.ntmps39
        go_upto_region 1 with (fail)
        unfold zFd at A0 F0
        generalize w.alloc (.cells #[.string ⟨#[]⟩, .string ⟨#[]⟩] 26) = w0 at A0 F0 ⊢
        go_wp2_with fail
        refine (cut_yes s 58 _ hs HC.out).mono ?_
        rintro e w1 ⟨rfl, G⟩
        have A1 : At w1 w.heap.size 26 (fdV Fd.zero) := A0.old G
        have F1 := F0.trans (G.mono F0.size)
        clear A0 F0 G
        have tok1 := tok w1 (by omega)
        have txt1 := txt w1 (by omega)
        clear tok txt
        generalize tx x = X at tok1 ⊢
        generalize tx y = Y at txt1 ⊢
        go_wp2_with fail
        refine tok1.mono ?_
        rintro e w' ⟨rfl, rfl⟩
        clear tok1
        go_wp2_with fail
        refine txt1.mono ?_
        rintro e w' ⟨rfl, rfl⟩
        clear txt1
        have S2 := fd_stores (g := Fd.zero) A1
        have A2 := A1.row (fdV Fd.zero)
        have F2 : Below w.heap.size w (w1.setRow w.heap.size (fdV Fd.zero)) := below_row F1 (Nat.le_refl _)
        clear A1 F1
        generalize w1.setRow w.heap.size (fdV Fd.zero) = w2 at S2 A2 F2
        go_wp2_with (refine wpl_store S2 rfl rfl rfl rfl rfl ?_)
        exact bodyPost_ret (results_cell_tmp Tryd.results39 _ rfl rfl (fd_loads A2)) rfl ⟨by rw [P.out.1, P.out.2]; rfl, F2⟩
      | true =>
        have P := Lib.hid (p_some (parseF_cut hc h1 h2))
        rw [h2] at txt
        have tr := trim_any (tx y)
        rw [ls_tx, tx_size] at tr
        have tz := trimT_le y
        clear hc h1 h2
        go_enter Tryd.func39, Tryd.ntmps39
        go_upto_region 1 with (fail)
        unfold zFd at A0 F0
        generalize w.alloc (.cells #[.string ⟨#[]⟩, .string ⟨#[]⟩] 26) = w0 at A0 F0 ⊢
        go_wp2_with fail
        refine (cut_yes s 58 _ hs HC.out).mono ?_
        rintro e w1 ⟨rfl, G⟩
        have A1 : At w1 w.heap.size 26 (fdV Fd.zero) := A0.old G
        have F1 := F0.trans (G.mono F0.size)
        clear A0 F0 G
        have tok1 := tok w1 (by omega)
        have txt1 := txt w1 (by omega)
        have tr1 := fun w => tr w (by omega)
        have c1 := fun w => clone_any (tx x) w (by rw [tx_size]; omega)
        have c2 := fun w => clone_any (tx (trimT y)) w (by rw [tx_size]; omega)
        clear tok txt tr tz
        generalize tx x = X at tok1 c1 P ⊢
        generalize tx (trimT y) = T at tr1 c2 P ⊢
        generalize tx y = Y at txt1 tr1 ⊢
        go_wp2_with fail
        refine tok1.mono ?_
        rintro e w' ⟨rfl, rfl⟩
        clear tok1
        go_wp2_with fail
        refine txt1.mono ?_
        rintro e w' ⟨rfl, rfl⟩
        clear txt1
        go_wp2_with fail
        refine (c1 _).mono ?_
        rintro e w2 ⟨rfl, G2⟩
        replace A1 := A1.old G2
        replace F1 := F1.trans (G2.mono F1.size)
        clear c1 G2
        go_wp2_with fail
        refine (tr1 _).mono ?_
        rintro e w3 ⟨rfl, G3⟩
        replace A1 := A1.old G3
        replace F1 := F1.trans (G3.mono F1.size)
        clear tr1 G3
        go_wp2_with fail
        refine (c2 _).mono ?_
        rintro e w4 ⟨rfl, G4⟩
        replace A1 := A1.old G4
        replace F1 := F1.trans (G4.mono F1.size)
        clear c2 G4
        have S2 := fd_stores (g := ⟨X, T⟩) A1
        have A2 := A1.row (fdV ⟨X, T⟩)
        have F2 : Below w.heap.size w (w4.setRow w.heap.size (fdV ⟨X, T⟩)) := below_row F1 (Nat.le_refl _)
        clear A1 F1
        generalize w4.setRow w.heap.size (fdV ⟨X, T⟩) = w5 at S2 A2 F2
        go_wp2_with (refine wpl_store S2 rfl rfl rfl rfl rfl ?_)
        exact bodyPost_ret (results_cell_tmp Tryd.results39 _ rfl rfl (fd_loads A2)) rfl ⟨by rw [P.out.1, P.out.2]; rfl, F2⟩
end Go.Proofs.YtdldoklkenhopaaDoor.Fi
