/-
  The steps of Next at a body, told plainly.
-/
import Derived.Test.YtdldoklkenhopaaGreatDoorInHead3
namespace Go.Proofs.YtdldoklkenhopaaGreatDoor.In
open Go.RowKit Go.PlainAid
open Hx Fi Ch
set_option linter.unusedVariables false
set_option maxRecDepth 20000
set_option linter.unusedSimpArgs false

theorem taken_ok {M : Nat} {s : CS} (h : s.Ok M) : (taken s).Ok M := ⟨h.n, Nat.zero_le _, h.g⟩
theorem err_in {M : Nat} {s : CS} (h : s.Ok M) : s.md.error = 0 ∨ s.md.error = 3 ∨ s.md.error = 4 := by
  have := h.g
  cases hm : s.md with
  | err e => rw [hm] at this; exact .inr this
  | _ => exact .inl rfl
section
variable {w : World} {p : Nat} {Z : Nat → Prop} {c : I}
theorem body_step (h : Has w p Z c) {l pre : List UInt8} {f : Fr} (hb : Bod c l pre f) (hm : l.length ≤ 524288) :
    Calls Tryz.prog 18 #[.pointer (some ⟨p, 0, none⟩)] w (StepPost w p Z c l) := by
  obtain ⟨d, hd, hp⟩ := hb.due
  have hlen := congrArg List.length hb.ll
  rw [List.length_append] at hlen
  have hrd := hb.rd
  obtain ⟨hf, _⟩ := headQ_ok hb.q
  have hfn := (fr_n (spl l).list).2
  rw [← hf] at hfn
  have hn := spl_n l
  by_cases hl : d ≤ c.l2.length
  · refine (body_whole h hd hl (by omega) (by omega)).mono fun e w' ⟨a, b⟩ => ⟨true, _, a, b, ?_⟩
    show (if true = true then _ else _)
    rw [if_pos rfl]
    refine ⟨.whole _ (hb.step hd hl).2, ?_⟩
    have : rank c = 1 := by unfold rank; rw [if_neg (by rw [hb.st]; omega), if_neg (by rw [hb.st]; omega)]
    rw [this]
    show (0 : Nat) < 1
    omega
  · refine (body_wait h hd (by omega) (by omega) (by omega) (by omega)).mono fun e w' ⟨a, b⟩ => ⟨false, _, a, b, ?_⟩
    show (if false = true then _ else _)
    rw [if_neg (by simp)]
    obtain ⟨h1, h2⟩ := hb.wait hd (by omega)
    rw [show ((d - c.l2.length : Nat) : Int) = (d : Int) - (c.l2.length : Int) by omega] at h2
    exact .inl ⟨h1, .body _ _ h2⟩
theorem chunk_step (h : Has w p Z c) {l pre : List UInt8} {f : Fr} (hb : Chu c l pre f) (hm : l.length ≤ 524288) :
    Calls Tryz.prog 19 #[.pointer (some ⟨p, 0, none⟩)] w (StepPost w p Z c l) := by
  obtain ⟨T, hT, hmd, htk, hrd, hrl⟩ := hb.runs
  have hlen := congrArg List.length hb.ll
  rw [List.length_append] at hlen
  have hc := hb.rd
  have ok : (taken (run 4096 init (pre.drop (spl l).n))).Ok 4096 := taken_ok (init_ok 4096).run
  have okT : T.Ok 4096 := by rw [← hT]; exact ok.run
  have hr0 : (taken (run 4096 init (pre.drop (spl l).n))).md.rest.length = 0 := by
    show (run 4096 init (pre.drop (spl l).n)).md.rest.length = 0
    rw [rest_none hb.more.1]; rfl
  by_cases he : T.md.error = 0
  · cases hd : T.md.isDone with
    | true =>
      refine (chunks_done h hb.R ok rfl hr0 hT he hd hrl (by omega) (by omega)).mono fun e w' ⟨a, b⟩ => ⟨true, _, a, b, ?_⟩
      show (if true = true then _ else _)
      rw [if_pos rfl]
      refine ⟨.whole _ (hb.step hrd hrl hd (some (taken T))), ?_⟩
      have : rank c = 1 := by unfold rank; rw [if_neg (by rw [hb.st]; omega), if_neg (by rw [hb.st]; omega)]
      rw [this]
      show (0 : Nat) < 1
      omega
    | false =>
      refine (chunks_wait h hb.R ok rfl hr0 hT he hd hrl (by omega) (by omega)).mono fun e w' ⟨a, b⟩ => ⟨false, _, a, b, ?_⟩
      show (if false = true then _ else _)
      rw [if_neg (by simp)]
      obtain ⟨h1, h2⟩ := hb.wait htk hmd hrd hd he
      exact .inl ⟨h1, .chunks _ _ h2⟩
  · have hbd := Chu.bad hrd he
    have hin := err_in okT
    refine (chunks_bad h hb.R ok rfl hr0 hT he (by omega) (n := l.length) (by omega) (by omega) (by omega)).mono fun e w' ⟨a, b⟩ => ⟨false, _, a, b, ?_⟩
    show (if false = true then _ else _)
    rw [if_neg (by simp)]
    exact .inr ⟨_, hbd, refused_is (c := { c with R := some T }) (by show c.rd + (c.l2.length : Int) = _; omega) (rd_bad_ne hbd).1⟩
end
end Go.Proofs.YtdldoklkenhopaaGreatDoor.In
