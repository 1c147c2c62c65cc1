/-
  Contracts of paramValue, paramOf and Params of package field.
-/
import Derived.Test.YtdimjeajgmlfkaaDoorFiQuo
import Derived.Test.YtdimjeajgmlfkaaDoorFiParse
namespace Go.Proofs.YtdimjeajgmlfkaaDoor.Fi
open Go.RowKit Go.PlainAid
open Hx
set_option linter.unusedVariables false
set_option maxRecDepth 20000
set_option linter.unusedSimpArgs false

def pvV (l : List UInt8) : List UInt8 := (valF l).getD []
def pvB (l : List UInt8) : Bool := (valF l).isSome
theorem uqF_le : ∀ (n : Nat) (l acc : List UInt8), l.length ≤ n → ∀ x, uqF l acc = some x → x.length ≤ acc.length + l.length := by
  intro n
  induction n with
  | zero =>
    intro l acc hl x h
    have : l = [] := List.eq_nil_of_length_eq_zero (by omega)
    subst this
    rw [uqF_nil] at h; cases h
  | succ n ih =>
    intro l acc hl x h
    cases l with
    | nil => rw [uqF_nil] at h; cases h
    | cons c l =>
      simp only [List.length_cons] at hl ⊢
      by_cases h1 : c = 34
      · subst h1
        by_cases h2 : l = []
        · subst h2; rw [uqF_end] at h; cases h; omega
        · rw [uqF_quote acc h2] at h; cases h
      · by_cases h2 : c = 92
        · subst h2
          cases l with
          | nil => rw [uqF_last] at h; cases h
          | cons d l =>
            rw [uqF_esc] at h
            simp only [List.length_cons] at hl ⊢
            have := ih l (acc ++ [d]) (by omega) x h
            simp at this
            omega
        · rw [uqF_else l acc h1 h2] at h
          have := ih l (acc ++ [c]) (by omega) x h
          simp at this
          omega
theorem valF_le {l x : List UInt8} (h : valF l = some x) : x.length ≤ l.length := by
  unfold valF at h
  split at h
  · cases h; exact Nat.le_refl _
  · cases l with
    | nil => cases h
    | cons c l =>
      have h2 : (if c = 34 then uqF l [] else none) = some x := h
      split at h2
      · have := uqF_le _ l [] (Nat.le_refl _) x h2
        simp at this
        simp; omega
      · cases h2
theorem paramValue_any (s : ByteArray) (w : World) (hs : s.size ≤ 1099511627776) :
    Calls Tryd.prog 60 #[.string s] w fun e w' => e = .returned (.tuple #[.string (tx (pvV (ls s))), .bool (pvB (ls s))]) ∧ Below w.heap.size w w' := by
  have tk := isToken_any s w (by omega)
  have cl := fun w => clone_any s w (by omega)
  have uq := fun w => unquoted_any s w hs
  by_cases h : isTok (ls s) = true
  · have e1 : pvV (ls s) = ls s := by unfold pvV valF; rw [if_pos h]; rfl
    have e2 : pvB (ls s) = true := by unfold pvB valF; rw [if_pos h]; rfl
    rw [e1, e2, tx_ls]
    rw [h] at tk
    clear e1 e2 h uq
    go_enter Tryd.func60, Tryd.ntmps60
    go_wp2_with fail
    refine tk.mono ?_
    rintro e w2 ⟨rfl, rfl⟩
    clear tk
    go_wp2_with fail
    refine (cl _).mono ?_
    rintro e w2 ⟨rfl, G⟩
    clear cl
    go_wp2
    go_ret2
    exact ⟨rfl, G⟩
  · have e1 : pvV (ls s) = qV (ls s) := by unfold pvV valF; rw [if_neg h]; rfl
    have e2 : pvB (ls s) = qB (ls s) := by unfold pvB valF; rw [if_neg h]; rfl
    rw [e1, e2]
    rw [show isTok (ls s) = false by simpa using h] at tk
    clear e1 e2 h cl
    generalize tx (qV (ls s)) = V at uq ⊢
    generalize qB (ls s) = B at uq ⊢
    go_enter Tryd.func60, Tryd.ntmps60
    go_wp2_with fail
    refine tk.mono ?_
    rintro e w2 ⟨rfl, rfl⟩
    clear tk
    go_wp2_with fail
    refine (uq _).mono ?_
    rintro e w2 ⟨rfl, G⟩
    clear uq
    go_wp2
    go_ret2
    exact ⟨rfl, G⟩
/-- the parameter of a part, and the error's number -/
def paF (l : List UInt8) : Fd := (parF l).getD Fd.zero
def paE (l : List UInt8) : Int := if (parF l).isSome then 0 else 3
theorem pa_none {l : List UInt8} (h : parF l = none) : paF l = Fd.zero ∧ paE l = 3 := by unfold paF paE; rw [h]; exact ⟨rfl, rfl⟩
theorem pa_some {l : List UInt8} {f : Fd} (h : parF l = some f) : paF l = f ∧ paE l = 0 := by unfold paF paE; rw [h]; exact ⟨rfl, rfl⟩
theorem parF_cut_none {l : List UInt8} (h : cutB 61 l = none) : parF l = none := by unfold parF; rw [h]
theorem parF_cut_bad {l x y : List UInt8} (h : cutB 61 l = some (x, y)) (hb : isTok x = false ∨ valF y = none) : parF l = none := by
  unfold parF; rw [h]; simp only
  rcases hb with hb | hb
  · rw [if_neg (by rw [hb]; simp)]
  · rw [hb]; split <;> rfl
theorem parF_cut {l x y v : List UInt8} (h : cutB 61 l = some (x, y)) (h1 : isTok x = true) (h2 : valF y = some v) : parF l = some ⟨tx (low x), tx v⟩ := by unfold parF; rw [h]; simp only; rw [if_pos h1, h2]; rfl
def PaPost (l : List UInt8) (w : World) (e : Ending) (w' : World) : Prop := e = .returned (.tuple #[.agg (fdV (paF l)), .int .i64 (paE l)]) ∧ Below w.heap.size w w'
theorem pv_nil : pvV [] = [] ∧ pvB [] = false := ⟨rfl, rfl⟩
set_option maxHeartbeats 2000000 in
theorem paramOf_any (s : ByteArray) (w : World) (hs : s.size ≤ 1099511627776) :
    Calls Tryd.prog 51 #[.string s] w (PaPost (ls s) w) := by
  have A0 := At.new w 23 zFd
  have F0 : Below w.heap.size w (w.alloc (.cells zFd 23)) := (Below.refl _ _).alloc (Nat.le_refl _) _
  cases hc : cutB 61 (ls s) with
  | none =>
    have P := Lib.hid (pa_none (parF_cut_none hc))
    have r1 := fun w => cut_no s 61 w hs hc
    have r2 : ∀ w, Calls Tryd.prog 60 #[.string ⟨#[]⟩] w fun e w' => e = .returned (.tuple #[.string ⟨#[]⟩, .bool false]) ∧ Below w.heap.size w w' := fun w => paramValue_any ⟨#[]⟩ w (by decide)
    clear hc
    go_enter Tryd.func51, Tryd.ntmps51
    go_upto_region 1 with (fail)
    unfold zFd at A0 F0
    generalize w.alloc (.cells #[.string ⟨#[]⟩, .string ⟨#[]⟩] 23) = w0 at A0 F0 ⊢
    go_wp2_with fail
    refine (r1 _).mono ?_
    rintro e w1 ⟨rfl, G⟩
    have A1 : At w1 w.heap.size 23 (fdV Fd.zero) := A0.old G
    have F1 := F0.trans (G.mono F0.size)
    clear A0 F0 G r1
    go_wp2_with fail
    refine (r2 _).mono ?_
    rintro e w2 ⟨rfl, G⟩
    replace A1 := A1.old G
    replace F1 := F1.trans (G.mono F1.size)
    clear G r2
    have S2 := fd_stores (g := Fd.zero) A1
    have A2 := A1.row (fdV Fd.zero)
    have F2 : Below w.heap.size w (w2.setRow w.heap.size (fdV Fd.zero)) := below_row F1 (Nat.le_refl _)
    clear A1 F1
    generalize w2.setRow w.heap.size (fdV Fd.zero) = w3 at S2 A2 F2
    go_wp2_with (refine wpl_store S2 rfl rfl rfl rfl rfl ?_)
    exact bodyPost_ret (results_cell_tmp Tryd.results51 _ rfl rfl (fd_loads A2)) rfl ⟨by rw [P.out.1, P.out.2]; rfl, F2⟩
  | some p =>
    obtain ⟨x, y⟩ := p
    have hlen := cutB_len hc
    rw [ls_len] at hlen
    have r1 := fun w => cut_yes s 61 w hs hc
    have tok := fun w => isToken_any (tx x) w (by rw [tx_size]; omega)
    rw [ls_tx] at tok
    have pv := fun w => paramValue_any (tx y) w (by rw [tx_size]; omega)
    rw [ls_tx] at pv
    have sm := fun w => small_any (tx x) w (by rw [tx_size]; omega)
    rw [ls_tx] at sm
    cases h2 : valF y with
    | none =>
      have P := Lib.hid (pa_none (parF_cut_bad hc (.inr h2)))
      have e2 : pvB y = false := by unfold pvB; rw [h2]; rfl
      rw [e2] at pv
      clear hc h2 e2 sm tok
      generalize tx x = X at r1
      generalize tx y = Y at r1 pv
      generalize tx (pvV y) = V at pv
      go_enter Tryd.func51, Tryd.ntmps51
      go_upto_region 1 with (fail)
      unfold zFd at A0 F0
      generalize w.alloc (.cells #[.string ⟨#[]⟩, .string ⟨#[]⟩] 23) = w0 at A0 F0 ⊢
      go_wp2_with fail
      refine (r1 _).mono ?_
      rintro e w1 ⟨rfl, G⟩
      have A1 : At w1 w.heap.size 23 (fdV Fd.zero) := A0.old G
      have F1 := F0.trans (G.mono F0.size)
      clear A0 F0 G r1
      go_wp2_with fail
      refine (pv _).mono ?_
      rintro e w2 ⟨rfl, G⟩
      replace A1 := A1.old G
      replace F1 := F1.trans (G.mono F1.size)
      clear G pv
      have S2 := fd_stores (g := Fd.zero) A1
      have A2 := A1.row (fdV Fd.zero)
      have F2 : Below w.heap.size w (w2.setRow w.heap.size (fdV Fd.zero)) := below_row F1 (Nat.le_refl _)
      clear A1 F1
      generalize w2.setRow w.heap.size (fdV Fd.zero) = w3 at S2 A2 F2
      go_wp2_with (refine wpl_store S2 rfl rfl rfl rfl rfl ?_)
      exact bodyPost_ret (results_cell_tmp Tryd.results51 _ rfl rfl (fd_loads A2)) rfl ⟨by rw [P.out.1, P.out.2]; rfl, F2⟩
    | some v =>
      have e2 : pvB y = true := by unfold pvB; rw [h2]; rfl
      have e3 : pvV y = v := by unfold pvV; rw [h2]; rfl
      rw [e2, e3] at pv
      cases h1 : isTok x with
      | false =>
        have P := Lib.hid (pa_none (parF_cut_bad hc (.inl h1)))
        rw [h1] at tok
        clear hc h2 h1 e2 e3 sm
        generalize tx x = X at r1 tok
        generalize tx y = Y at r1 pv
        generalize tx v = V at pv
        go_enter Tryd.func51, Tryd.ntmps51
        go_upto_region 1 with (fail)
        unfold zFd at A0 F0
        generalize w.alloc (.cells #[.string ⟨#[]⟩, .string ⟨#[]⟩] 23) = w0 at A0 F0 ⊢
        go_wp2_with fail
        refine (r1 _).mono ?_
        rintro e w1 ⟨rfl, G⟩
        have A1 : At w1 w.heap.size 23 (fdV Fd.zero) := A0.old G
        have F1 := F0.trans (G.mono F0.size)
        clear A0 F0 G r1
        go_wp2_with fail
        refine (pv _).mono ?_
        rintro e w2 ⟨rfl, G⟩
        replace A1 := A1.old G
        replace F1 := F1.trans (G.mono F1.size)
        clear G pv
        go_wp2_with fail
        refine (tok _).mono ?_
        rintro e w' ⟨rfl, rfl⟩
        clear tok
        have S2 := fd_stores (g := Fd.zero) A1
        have A2 := A1.row (fdV Fd.zero)
        have F2 : Below w.heap.size w (w2.setRow w.heap.size (fdV Fd.zero)) := below_row F1 (Nat.le_refl _)
        clear A1 F1
        generalize w2.setRow w.heap.size (fdV Fd.zero) = w3 at S2 A2 F2
        go_wp2_with (refine wpl_store S2 rfl rfl rfl rfl rfl ?_)
        exact bodyPost_ret (results_cell_tmp Tryd.results51 _ rfl rfl (fd_loads A2)) rfl ⟨by rw [P.out.1, P.out.2]; rfl, F2⟩
      | true =>
        have P := Lib.hid (pa_some (parF_cut hc h1 h2))
        rw [h1] at tok
        clear hc h2 h1 e2 e3
        generalize tx x = X at r1 tok sm
        generalize tx (low x) = L at sm P
        generalize tx y = Y at r1 pv
        generalize tx v = V at pv P
        go_enter Tryd.func51, Tryd.ntmps51
        go_upto_region 1 with (fail)
        unfold zFd at A0 F0
        generalize w.alloc (.cells #[.string ⟨#[]⟩, .string ⟨#[]⟩] 23) = w0 at A0 F0 ⊢
        go_wp2_with fail
        refine (r1 _).mono ?_
        rintro e w1 ⟨rfl, G⟩
        have A1 : At w1 w.heap.size 23 (fdV Fd.zero) := A0.old G
        have F1 := F0.trans (G.mono F0.size)
        clear A0 F0 G r1
        go_wp2_with fail
        refine (pv _).mono ?_
        rintro e w2 ⟨rfl, G⟩
        replace A1 := A1.old G
        replace F1 := F1.trans (G.mono F1.size)
        clear G pv
        go_wp2_with fail
        refine (tok _).mono ?_
        rintro e w' ⟨rfl, rfl⟩
        clear tok
        go_wp2_with fail
        refine (sm _).mono ?_
        rintro e w3 ⟨rfl, G⟩
        replace A1 := A1.old G
        replace F1 := F1.trans (G.mono F1.size)
        clear G sm
        have S2 := fd_stores (g := ⟨L, V⟩) A1
        have A2 := A1.row (fdV ⟨L, V⟩)
        have F2 : Below w.heap.size w (w3.setRow w.heap.size (fdV ⟨L, V⟩)) := below_row F1 (Nat.le_refl _)
        clear A1 F1
        generalize w3.setRow w.heap.size (fdV ⟨L, V⟩) = w4 at S2 A2 F2
        go_wp2_with (refine wpl_store S2 rfl rfl rfl rfl rfl ?_)
        exact bodyPost_ret (results_cell_tmp Tryd.results51 _ rfl rfl (fd_loads A2)) rfl ⟨by rw [P.out.1, P.out.2]; rfl, F2⟩
end Go.Proofs.YtdimjeajgmlfkaaDoor.Fi
