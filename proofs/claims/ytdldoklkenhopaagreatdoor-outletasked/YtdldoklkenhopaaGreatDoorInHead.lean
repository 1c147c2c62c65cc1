/-
  Contracts of hasHost and begin: what a head tells.
-/
import Derived.Test.YtdldoklkenhopaaGreatDoorInShort
import Derived.Test.YtdldoklkenhopaaGreatDoorSet6
import Derived.Test.YtdldoklkenhopaaGreatDoorInStep2
namespace Go.Proofs.YtdldoklkenhopaaGreatDoor.In
open Go.RowKit Go.PlainAid
open Hx Fi Ch
set_option linter.unusedVariables false
set_option maxRecDepth 20000
set_option linter.unusedSimpArgs false

theorem hasHost_any {w : World} {v : Value} {xs : List Fi.Fd} (hv : FdsAt w v xs) (hs : Short xs) (k : Nat) (hk : k ≤ 1) :
    Calls Tryz.prog 57 #[v, .int .i64 (k : Int)] w fun e w' => e = .returned (.bool (decide (¬ (1 < getN (ls nHost) xs ∨ (getN (ls nHost) xs = 0 ∧ k = 1))))) ∧ Below w.heap.size w w' := by
  have r : Calls Tryz.prog 5 #[v, .string ⟨#[72, 111, 115, 116]⟩] w fun e w' => e = .returned (.tuple #[.string (getS (ls nHost) xs), .int .i64 (getN (ls nHost) xs)]) ∧ Below w.heap.size w w' := get_any nHost hv (by have := hs.len; omega) (by decide) hs.reach
  obtain ⟨base, cap, rfl, _, _⟩ := hv.is
  clear hv hs
  generalize getS (ls nHost) xs = s at *
  obtain ⟨n, hn⟩ : ∃ n : Nat, n = getN (ls nHost) xs := ⟨_, rfl⟩
  rw [← hn] at r ⊢
  clear hn
  by_cases h1 : n = 1
  · have e : decide (¬ (1 < n ∨ (n = 0 ∧ k = 1))) = true := decide_eq_true (by omega)
    rw [e]
    have g1 : ((n : Int) == 1) = true := by rw [h1]; rfl
    clear h1 e
    go_enter Tryz.func57, Tryz.ntmps57
    go_wp2_with fail
    refine r.mono ?_
    rintro e w1 ⟨rfl, F1⟩
    clear r
    go_wp2
    go_ret
    exact ⟨rfl, F1⟩
  · have g1 : ((n : Int) == 1) = false := by rw [beq_eq_false_iff_ne]; omega
    by_cases h0 : n = 0
    · have g0 : ((n : Int) == 0) = true := by rw [h0]; rfl
      by_cases hk1 : k = 0
      · have e : decide (¬ (1 < n ∨ (n = 0 ∧ k = 1))) = true := decide_eq_true (by omega)
        rw [e]
        have gk : ((k : Int) == 0) = true := by rw [hk1]; rfl
        clear h1 h0 e hk1 hk
        go_enter Tryz.func57, Tryz.ntmps57
        go_wp2_with fail
        refine r.mono ?_
        rintro e w1 ⟨rfl, F1⟩
        clear r
        go_wp2
        go_ret
        exact ⟨rfl, F1⟩
      · have e : decide (¬ (1 < n ∨ (n = 0 ∧ k = 1))) = false := decide_eq_false (by omega)
        rw [e]
        have gk : ((k : Int) == 0) = false := by rw [beq_eq_false_iff_ne]; omega
        clear h1 h0 e hk1 hk
        go_enter Tryz.func57, Tryz.ntmps57
        go_wp2_with fail
        refine r.mono ?_
        rintro e w1 ⟨rfl, F1⟩
        clear r
        go_wp2
        go_ret
        exact ⟨rfl, F1⟩
    · have e : decide (¬ (1 < n ∨ (n = 0 ∧ k = 1))) = false := decide_eq_false (by omega)
      rw [e]
      have g0 : ((n : Int) == 0) = false := by rw [beq_eq_false_iff_ne]; omega
      clear h1 h0 e hk
      go_enter Tryz.func57, Tryz.ntmps57
      go_wp2_with fail
      refine r.mono ?_
      rintro e w1 ⟨rfl, F1⟩
      clear r
      go_wp2
      go_ret
      exact ⟨rfl, F1⟩
section
variable {w : World} {p : Nat} {Z : Nat → Prop} {c : I}
theorem fds_go {w' : World} {Z' : Nat → Prop} {v : Value} {xs : List Fi.Fd} (h : FdsAt w v xs) (hn : ∀ b, FB v xs b → ¬ Z b) (g : Goes w w' Z Z') : FdsAt w' v xs ∧ ∀ b, FB v xs b → ¬ Z' b :=
  ⟨fds_kept h g.size fun b hb => g.block b (fds_lt h hb) (hn b hb), fun b hb hz => by
    rcases g.sub b hz with e | e
    · exact hn b hb e
    · have := fds_lt h hb; omega⟩
theorem has_chk {w2 : World} {pc : Nat} {Y : Nat → Prop} (h : Has w p Z c) (ho : Of w pc Y 4096 init) (hb : Below w2.heap.size w2 w) (h2 : ∀ b, Z b → b < w2.heap.size) (hy : ∀ b, Y b → w2.heap.size ≤ b) : Post w2 (w.setCell ⟨p, 9, none⟩ (.pointer (some ⟨pc, 0, none⟩))) p Z { c with R := some init } := by
  obtain ⟨u, fv, ch, Zc, H⟩ := h
  obtain ⟨a, b⟩ := H.chunk ho fun b hb hz => by have := h2 b hz; have := hy b hb; omega
  exact ⟨_, ⟨_, _, _, _, a⟩, b w2 hy (Goes.of_below hb Z)⟩
theorem Has.c9 (h : Has w p Z c) : (∃ v, w.cell? ⟨p, 9, none⟩ = some v) ∧ w.frozen? ⟨p, 9, none⟩ = false := by
  obtain ⟨u, fv, ch, Zc, H⟩ := h
  exact ⟨⟨_, H.c9⟩, H.fz 9⟩
theorem has_req (h : Has w p Z c) (q : Rq) {v : Value} (hv : FdsAt w v q.fs) (hn : ∀ b, FB v q.fs b → ¬ Z b) : ∃ w', Stores Tryz.prog w 36 p 4 (rqV q v) w' ∧ ∀ (w0 : World) (Z0 : Nat → Prop), Goes w0 w Z0 Z → (∀ b, FB v q.fs b → w0.heap.size ≤ b) → Post w0 w' p Z0 { c with q := q } := by
  obtain ⟨u, fv, ch, Zc, H⟩ := h
  obtain ⟨o2, k2, e2, _⟩ := hv.is
  obtain ⟨a, _⟩ := H.req q hv hn
  refine ⟨_, H.rq_stores q ⟨o2, _, k2, e2⟩, fun w0 Z0 g hb => ⟨_, ⟨_, _, _, _, a⟩, ?_⟩⟩
  refine ⟨g.os, g.tape, g.output, by simpa using g.size, fun b h1 h2 => ?_, ?_⟩
  · refine (heap_setRow_other fun e => ?_).trans (g.block b h1 h2)
    rcases g.sub p H.zp with x | x
    · exact h2 (by rw [e]; exact x)
    · omega
  · rintro b (hz | hz)
    · exact g.sub b hz
    · exact .inr (hb b hz)
set_option maxHeartbeats 1000000 in
theorem begin_bad {h : Hd} {v : Value} {st : Int} (hq : headQ h = .error st) (hv : FdsAt w v h.list) (hs : Short h.list) (hl : h.start.length ≤ 4096) :
    Calls Tryz.prog 38 #[.pointer (some ⟨p, 0, none⟩), .string (tx h.start), v] w fun e w' => e = .returned (.int .i64 st) ∧ Below w.heap.size w w' := by
  have rl := fun w => line_any (tx h.start) w (by rw [tx_size]; omega)
  rw [ls_tx] at rl
  unfold headQ at hq
  cases hln : lnQ h.start with
  | error s =>
    rw [hln] at hq rl
    injection hq with hq
    subst hq
    simp only [ln_err] at rl
    have hne := lnQ_err hln
    have g : (s != 200) = true := by rw [bne_iff_ne]; omega
    obtain ⟨base, cap, rfl, _, _⟩ := hv.is
    clear hln hne hv hs hl
    generalize tx h.start = X at *
    go_enter Tryz.func38, Tryz.ntmps38
    go_wp2_with fail
    refine (rl _).mono ?_
    rintro e w1 ⟨rfl, F1⟩
    clear rl
    go_wp2
    go_ret
    exact ⟨rfl, F1⟩
  | ok pr =>
    obtain ⟨m, t, k⟩ := pr
    rw [hln] at hq rl
    simp only [ln_ok] at rl
    simp only at hq
    have hk := (lnQ_k hln).1
    have hh := fun w1 hb => hasHost_any (FdsAt.below hv (w' := w1) hb) hs k hk
    have ff := fun w1 hb => frame_any 4096 (FdsAt.below hv (w' := w1) hb) (by have := hs.len; omega) hs.reach (by omega) (by omega)
    have he := fr_e h.list
    obtain ⟨base, cap, rfl, _, _⟩ := hv.is
    clear hln hv hs hl hk
    generalize tx h.start = X at *
    generalize tx m = M at *
    generalize tx t = TT at *
    by_cases h1 : 1 < getN (ls nHost) h.list ∨ (getN (ls nHost) h.list = 0 ∧ k = 1)
    · rw [if_pos h1] at hq
      injection hq with hq
      subst hq
      rw [decide_eq_false (fun x => x h1)] at hh
      have HH := Lib.hid hh
      clear hh ff h1 he
      go_enter Tryz.func38, Tryz.ntmps38
      go_wp2_with fail
      refine (rl _).mono ?_
      rintro e w1 ⟨rfl, F1⟩
      clear rl
      go_wp2_with fail
      refine (HH.out w1 F1).mono ?_
      rintro e w2 ⟨rfl, F2⟩
      replace F1 := F1.trans (F2.mono F1.size)
      clear HH F2
      go_wp2
      go_ret
      exact ⟨rfl, F1⟩
    · rw [if_neg h1] at hq
      rw [decide_eq_true h1] at hh
      have HH := Lib.hid hh
      have FF := Lib.hid ff
      clear hh ff h1
      generalize (frF h.list 4096).n = fn at *
      generalize (frF h.list 4096).c = fc at *
      generalize (frF h.list 4096).e = fe at *
      have wo := fun w => wrongOf_any fe 413 (by omega) w
      have hst : (if fe = 4 then (413 : Int) else 400) = st := by
        split at hq
        · rename_i h4
          injection hq with hq
          rw [if_pos h4]; exact hq
        · split at hq
          · rename_i h4 h0
            injection hq with hq
            rw [if_neg h4]; exact hq
          · cases hq
      have hne : fe ≠ 0 := fun e => by
        rw [if_neg (by omega), if_neg (by omega)] at hq
        cases hq
      rw [hst] at wo
      have g : (fe != 0) = true := by rw [bne_iff_ne]; exact hne
      clear hst hne hq he
      go_enter Tryz.func38, Tryz.ntmps38
      go_wp2_with fail
      refine (rl _).mono ?_
      rintro e w1 ⟨rfl, F1⟩
      clear rl
      go_wp2_with fail
      refine (HH.out w1 F1).mono ?_
      rintro e w2 ⟨rfl, F2⟩
      replace F1 := F1.trans (F2.mono F1.size)
      clear HH F2
      go_wp2_with fail
      refine (FF.out w2 F1).mono ?_
      rintro e w3 ⟨rfl, F2⟩
      replace F1 := F1.trans (F2.mono F1.size)
      clear FF F2
      go_wp2_with fail
      refine (wo _).mono ?_
      rintro e w' ⟨rfl, rfl⟩
      clear wo
      go_wp2
      go_ret
      exact ⟨rfl, F1⟩
end
end Go.Proofs.YtdldoklkenhopaaGreatDoor.In
