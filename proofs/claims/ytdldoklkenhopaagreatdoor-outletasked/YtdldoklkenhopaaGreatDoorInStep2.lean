/-
  Contracts of readChunks and handOut.
-/
import Derived.Test.YtdldoklkenhopaaGreatDoorInStep
namespace Go.Proofs.YtdldoklkenhopaaGreatDoor.In
open Go.RowKit Go.PlainAid
open Hx Fi Ch
set_option linter.unusedVariables false
set_option maxRecDepth 20000
set_option linter.unusedSimpArgs false

section
variable {P : Program} {ops : Array Oper} {rest : List Oper} {o : Oper} {a : Act} {w w' : World}
theorem wps_conv {Q : Act → Prop} {v : Value} {r : Value} {t u : TypeId} {x : Operand} (hl : (convert t u v).run P w = .ok r w) (hgd : o.guard = none) (hop : o.op = .convert t u x) (hx : a.eval x = v) (h : wpStill P ops w Q rest (a.put o.dst r)) : wpStill P ops w Q (o :: rest) a := by
  refine wpStill_step fun K hK => ?_
  rw [if_pos (by simp [Region.wanted, hgd])]
  unfold Oper.still execOp
  simp only [hop, hx, Sem.run_bind, Sem.run_pure, Result.andThen_ok, hl]
  exact ⟨rfl, hK _ h⟩
end
section
variable {w : World} {p : Nat} {Z : Nat → Prop} {c : I}
theorem has_cd (h : Has w p Z c) : ∃ o k, w.cell? ⟨p, 1, none⟩ = some (.slice o c.l2.length k) ∧ (convert 49 9 (.slice o c.l2.length k)).run Tryz.prog w.drew = .ok (.string (tx c.l2)) w.drew := by
  obtain ⟨u, fv, ch, Zc, H⟩ := h
  obtain ⟨o, k, e, _⟩ := H.row.form
  subst e
  exact ⟨o, k, H.c1, H.drew.row.text⟩
set_option maxHeartbeats 1000000 in
theorem chunks_bad (h : Has w p Z c) {R T : CS} (hR : c.R = some R) (ok : R.Ok 4096) (hu : R.u.length = 0) (hr : R.md.rest.length = 0) (hT : run 4096 R c.l2 = T) (he : T.md.error ≠ 0) (hb : -9223372036854775808 ≤ T.md.error ∧ T.md.error ≤ 9223372036854775807) {n : Nat} (hn : c.rd + (c.l2.length : Int) = (n : Int)) (h0 : 0 ≤ c.rd) (hm : n ≤ 1048576) :
    Calls Tryz.prog 19 #[.pointer (some ⟨p, 0, none⟩)] w fun e w' => e = .returned (.bool false) ∧ Post w w' p Z (refused { c with R := some T } (if T.md.error = 4 then 413 else 400)) := by
  obtain ⟨pc, d9, hadd, _⟩ := has_ch h hR
  obtain ⟨o, k, d1, cv⟩ := has_cd h
  unfold World.drew at cv
  have kd : ∀ w1, Below w.heap.size w w1 → Calls Tryz.prog 40 #[.pointer (some ⟨pc, 0, none⟩), .string (tx c.l2)] w1 fun e w' => e = .returned (.int .i64 T.md.error) ∧ Post w w' p Z { c with R := some T } := fun w1 hb => by
    obtain ⟨pc', d9', hadd', _⟩ := has_ch (h.old hb) hR
    have e : pc' = pc := by
      have e2 := World.cell?_of_block (w := w) (a := ⟨p, 9, none⟩) (hb.block p (World.block_lt_of_cell? w ⟨p, 9, none⟩ d9))
      rw [d9', d9] at e2
      injection e2 with e2
      injection e2 with e2
      injection e2 with e2
      injection e2
    subst e
    have := hadd' (tx c.l2) ok (by rw [tx_size]; omega) (by rw [tx_size, hu]; omega) (by rw [tx_size, hr]; omega)
    rw [ls_tx, hT] at this
    exact this.mono fun e w' ⟨a, b⟩ => ⟨a, Post.trans (Goes.of_below hb Z) b⟩
  have KD := Lib.hid kd
  clear kd hadd
  have fu : ∀ w2 Z2, Has w2 p Z2 { c with R := some T } → ∀ st, Calls Tryz.prog 36 #[.pointer (some ⟨p, 0, none⟩), .int .i64 st] w2 fun e w' => e = .returned (.bool false) ∧ Post w2 w' p Z2 (refused { c with R := some T } st) := fun w2 Z2 h2 st => refuse_any h2 st hn h0 hm
  have FU := Lib.hid fu
  have wo := fun w => wrongOf_any T.md.error 413 hb w
  clear fu h hR ok hu hr hT hn h0 hm hb
  generalize T.md.error = er at *
  have g : (er != 0) = true := by rw [bne_iff_ne]; exact he
  clear he
  generalize (if er = 4 then (413 : Int) else 400) = st at *
  go_enter Tryz.func19, Tryz.ntmps19
  go_upto_region 1 with (fail)
  go_still_tail 9, (by kernel_rfl)
  refine wps_conv cv rfl rfl rfl ?_
  refine wpStill_nil ?_
  change wpList _ _ _ _ _ w.drew
  have C1 := KD.out w.drew ((Below.refl _ _).drew)
  clear d9 d1 cv KD
  generalize w.drew = w1 at C1 ⊢
  go_wp2_with fail
  refine C1.mono ?_
  rintro e w2 ⟨rfl, P2⟩
  clear C1
  obtain ⟨Z2, h2, G2⟩ := P2
  go_wp2_with fail
  refine (wo _).mono ?_
  rintro e w' ⟨rfl, rfl⟩
  clear wo
  have R2 := FU.out w2 Z2 h2 st
  clear FU h2
  go_wp2_with fail
  refine R2.mono ?_
  rintro e w3 ⟨rfl, P3⟩
  clear R2
  go_wp2
  go_ret
  exact ⟨rfl, Post.trans G2 P3⟩
set_option maxHeartbeats 1000000 in
theorem chunks_wait (h : Has w p Z c) {R T : CS} (hR : c.R = some R) (ok : R.Ok 4096) (hu : R.u.length = 0) (hr : R.md.rest.length = 0) (hT : run 4096 R c.l2 = T) (he : T.md.error = 0) (hd : T.md.isDone = false) (hrl : T.md.rest.length ≤ c.l2.length) (h0 : 0 ≤ c.rd) (hm : c.rd + (c.l2.length : Int) ≤ 1048576) :
    Calls Tryz.prog 19 #[.pointer (some ⟨p, 0, none⟩)] w fun e w' => e = .returned (.bool false) ∧ Post w w' p Z { passed c (c.l2.length - T.md.rest.length) with R := some (taken T) } := by
  obtain ⟨pc, d9, hadd, _⟩ := has_ch h hR
  obtain ⟨o, k, d1, cv⟩ := has_cd h
  unfold World.drew at cv
  have kd : ∀ w1, Below w.heap.size w w1 → Calls Tryz.prog 40 #[.pointer (some ⟨pc, 0, none⟩), .string (tx c.l2)] w1 fun e w' => e = .returned (.int .i64 T.md.error) ∧ Post w w' p Z { c with R := some T } := fun w1 hb => by
    obtain ⟨pc', d9', hadd', _⟩ := has_ch (h.old hb) hR
    have e : pc' = pc := by
      have e2 := World.cell?_of_block (w := w) (a := ⟨p, 9, none⟩) (hb.block p (World.block_lt_of_cell? w ⟨p, 9, none⟩ d9))
      rw [d9', d9] at e2
      injection e2 with e2
      injection e2 with e2
      injection e2 with e2
      injection e2
    subst e
    have := hadd' (tx c.l2) ok (by rw [tx_size]; omega) (by rw [tx_size, hu]; omega) (by rw [tx_size, hr]; omega)
    rw [ls_tx, hT] at this
    exact this.mono fun e w' ⟨a, b⟩ => ⟨a, Post.trans (Goes.of_below hb Z) b⟩
  have KD := Lib.hid kd
  clear kd hadd
  have he0 : T.md.error = 0 := he
  rw [he0] at KD
  have tk : ∀ w2 Z2, Has w2 p Z2 { c with R := some T } → ∃ pc, w2.cell? ⟨p, 9, none⟩ = some (.pointer (some ⟨pc, 0, none⟩)) ∧ Calls Tryz.prog 41 #[.pointer (some ⟨pc, 0, none⟩)] w2 fun e w' => e = .returned (.string (tx T.u)) ∧ Post w2 w' p Z2 { c with R := some (taken T) } := fun w2 Z2 h2 => by
    obtain ⟨pc, a, _, b, _⟩ := has_ch h2 rfl
    exact ⟨pc, a, b⟩
  have rs : ∀ w3 Z3, Has w3 p Z3 { c with R := some (taken T) } → ∃ pc o k, w3.cell? ⟨p, 9, none⟩ = some (.pointer (some ⟨pc, 0, none⟩)) ∧ w3.cell? ⟨p, 1, none⟩ = some (.slice o c.l2.length k) ∧ (Calls Tryz.prog 42 #[.pointer (some ⟨pc, 0, none⟩)] w3.drew fun e w' => e = .returned (.string (tx T.md.rest)) ∧ w3.drew = w') ∧
      Calls Tryz.prog 39 #[.pointer (some ⟨p, 0, none⟩), .int .i64 ((c.l2.length : Int) - ((tx T.md.rest).size : Int))] w3.drew fun e w' => e = .returned (.tuple #[]) ∧ Post w3 w' p Z3 { passed c (c.l2.length - T.md.rest.length) with R := some (taken T) } := fun w3 Z3 h3 => by
    have hb : Below w3.heap.size w3 w3.drew := (Below.refl _ _).drew
    obtain ⟨pc, a, _, _, b, _⟩ := has_ch (h3.old hb) rfl
    obtain ⟨o, k, a1, _⟩ := h3.c1
    refine ⟨pc, o, k, a, a1, b, ?_⟩
    have := pass_any (h3.old hb) (c.l2.length - T.md.rest.length) (Nat.sub_le _ _) h0 hm
    rw [show (((c.l2.length - T.md.rest.length : Nat)) : Int) = (c.l2.length : Int) - ((tx T.md.rest).size : Int) by rw [tx_size]; omega] at this
    exact this.mono fun e w' ⟨a, b⟩ => ⟨a, Post.trans (Goes.of_below hb Z3) b⟩
  have dn : ∀ w4 Z4, Has w4 p Z4 { passed c (c.l2.length - T.md.rest.length) with R := some (taken T) } → ∃ pc, w4.cell? ⟨p, 9, none⟩ = some (.pointer (some ⟨pc, 0, none⟩)) ∧ Calls Tryz.prog 43 #[.pointer (some ⟨pc, 0, none⟩)] w4 fun e w' => e = .returned (.bool T.md.isDone) ∧ w4 = w' := fun w4 Z4 h4 => by
    obtain ⟨pc, a, _, _, _, b⟩ := has_ch h4 rfl
    exact ⟨pc, a, b⟩
  have TK := Lib.hid tk
  have RS := Lib.hid rs
  have DN := Lib.hid dn
  have hz : (tx T.md.rest).size ≤ 1048576 := by rw [tx_size]; omega
  have hl3 : c.l2.length ≤ 1048576 := by omega
  have hcc : Hid ((c.l2.length - T.md.rest.length : Nat) = (c.l2.length - T.md.rest.length : Nat)) := Lib.hid rfl
  clear tk rs dn hm h0 hrl hR ok hu hr hT he he0 h
  generalize tx T.md.rest = X at *
  go_enter Tryz.func19, Tryz.ntmps19
  go_upto_region 1 with (fail)
  go_still_tail 9, (by kernel_rfl)
  refine wps_conv cv rfl rfl rfl ?_
  refine wpStill_nil ?_
  change wpList _ _ _ _ _ w.drew
  have C1 := KD.out w.drew ((Below.refl _ _).drew)
  clear d9 d1 cv KD
  generalize w.drew = w1 at C1 ⊢
  go_wp2_with fail
  refine C1.mono ?_
  rintro e w2 ⟨rfl, P2⟩
  clear C1
  obtain ⟨Z2, h2, G2⟩ := P2
  obtain ⟨pc2, a2, T2⟩ := TK.out w2 Z2 h2
  clear TK h2
  go_wp2_with fail
  refine T2.mono ?_
  rintro e w3 ⟨rfl, Z3, h3, G3⟩
  clear T2 a2
  obtain ⟨pc3, o3, k3, a3, b3, R3, S3⟩ := RS.out w3 Z3 h3
  clear RS h3
  have GG := G2.trans G3
  clear G2 G3
  go_upto_region 5 with (fail)
  go_still_tail 13, (by kernel_rfl)
  still_call (flipC R3)
  repeat still_step
  try refine wpStill_nil ?_
  change wpList _ _ _ _ _ w3.drew
  clear a3 b3 R3
  generalize w3.drew = w3' at S3 ⊢
  go_wp2_with fail
  refine S3.mono ?_
  rintro e w4 ⟨rfl, Z4, h4, G4⟩
  clear S3
  obtain ⟨pc4, a4, D4⟩ := DN.out w4 Z4 h4
  clear DN
  go_wp2_with fail
  refine D4.mono ?_
  rintro e w' ⟨rfl, rfl⟩
  clear D4 a4
  rw [hd]
  go_wp2
  go_ret
  exact ⟨rfl, _, h4, GG.trans G4⟩
set_option maxHeartbeats 1000000 in
theorem chunks_done (h : Has w p Z c) {R T : CS} (hR : c.R = some R) (ok : R.Ok 4096) (hu : R.u.length = 0) (hr : R.md.rest.length = 0) (hT : run 4096 R c.l2 = T) (he : T.md.error = 0) (hd : T.md.isDone = true) (hrl : T.md.rest.length ≤ c.l2.length) (h0 : 0 ≤ c.rd) (hm : c.rd + (c.l2.length : Int) ≤ 1048576) :
    Calls Tryz.prog 19 #[.pointer (some ⟨p, 0, none⟩)] w fun e w' => e = .returned (.bool true) ∧ Post w w' p Z { passed c (c.l2.length - T.md.rest.length) with R := some (taken T), st := 3 } := by
  obtain ⟨pc, d9, hadd, _⟩ := has_ch h hR
  obtain ⟨o, k, d1, cv⟩ := has_cd h
  unfold World.drew at cv
  have kd : ∀ w1, Below w.heap.size w w1 → Calls Tryz.prog 40 #[.pointer (some ⟨pc, 0, none⟩), .string (tx c.l2)] w1 fun e w' => e = .returned (.int .i64 T.md.error) ∧ Post w w' p Z { c with R := some T } := fun w1 hb => by
    obtain ⟨pc', d9', hadd', _⟩ := has_ch (h.old hb) hR
    have e : pc' = pc := by
      have e2 := World.cell?_of_block (w := w) (a := ⟨p, 9, none⟩) (hb.block p (World.block_lt_of_cell? w ⟨p, 9, none⟩ d9))
      rw [d9', d9] at e2
      injection e2 with e2
      injection e2 with e2
      injection e2 with e2
      injection e2
    subst e
    have := hadd' (tx c.l2) ok (by rw [tx_size]; omega) (by rw [tx_size, hu]; omega) (by rw [tx_size, hr]; omega)
    rw [ls_tx, hT] at this
    exact this.mono fun e w' ⟨a, b⟩ => ⟨a, Post.trans (Goes.of_below hb Z) b⟩
  have KD := Lib.hid kd
  clear kd hadd
  have he0 : T.md.error = 0 := he
  rw [he0] at KD
  have tk : ∀ w2 Z2, Has w2 p Z2 { c with R := some T } → ∃ pc, w2.cell? ⟨p, 9, none⟩ = some (.pointer (some ⟨pc, 0, none⟩)) ∧ Calls Tryz.prog 41 #[.pointer (some ⟨pc, 0, none⟩)] w2 fun e w' => e = .returned (.string (tx T.u)) ∧ Post w2 w' p Z2 { c with R := some (taken T) } := fun w2 Z2 h2 => by
    obtain ⟨pc, a, _, b, _⟩ := has_ch h2 rfl
    exact ⟨pc, a, b⟩
  have rs : ∀ w3 Z3, Has w3 p Z3 { c with R := some (taken T) } → ∃ pc o k, w3.cell? ⟨p, 9, none⟩ = some (.pointer (some ⟨pc, 0, none⟩)) ∧ w3.cell? ⟨p, 1, none⟩ = some (.slice o c.l2.length k) ∧ (Calls Tryz.prog 42 #[.pointer (some ⟨pc, 0, none⟩)] w3.drew fun e w' => e = .returned (.string (tx T.md.rest)) ∧ w3.drew = w') ∧
      Calls Tryz.prog 39 #[.pointer (some ⟨p, 0, none⟩), .int .i64 ((c.l2.length : Int) - ((tx T.md.rest).size : Int))] w3.drew fun e w' => e = .returned (.tuple #[]) ∧ Post w3 w' p Z3 { passed c (c.l2.length - T.md.rest.length) with R := some (taken T) } := fun w3 Z3 h3 => by
    have hb : Below w3.heap.size w3 w3.drew := (Below.refl _ _).drew
    obtain ⟨pc, a, _, _, b, _⟩ := has_ch (h3.old hb) rfl
    obtain ⟨o, k, a1, _⟩ := h3.c1
    refine ⟨pc, o, k, a, a1, b, ?_⟩
    have := pass_any (h3.old hb) (c.l2.length - T.md.rest.length) (Nat.sub_le _ _) h0 hm
    rw [show (((c.l2.length - T.md.rest.length : Nat)) : Int) = (c.l2.length : Int) - ((tx T.md.rest).size : Int) by rw [tx_size]; omega] at this
    exact this.mono fun e w' ⟨a, b⟩ => ⟨a, Post.trans (Goes.of_below hb Z3) b⟩
  have dn : ∀ w4 Z4, Has w4 p Z4 { passed c (c.l2.length - T.md.rest.length) with R := some (taken T) } → ∃ pc, w4.cell? ⟨p, 9, none⟩ = some (.pointer (some ⟨pc, 0, none⟩)) ∧ Calls Tryz.prog 43 #[.pointer (some ⟨pc, 0, none⟩)] w4 fun e w' => e = .returned (.bool T.md.isDone) ∧ w4 = w' := fun w4 Z4 h4 => by
    obtain ⟨pc, a, _, _, _, b⟩ := has_ch h4 rfl
    exact ⟨pc, a, b⟩
  have TK := Lib.hid tk
  have RS := Lib.hid rs
  have DN := Lib.hid dn
  have hz : (tx T.md.rest).size ≤ 1048576 := by rw [tx_size]; omega
  have hl3 : c.l2.length ≤ 1048576 := by omega
  have hcc : Hid ((c.l2.length - T.md.rest.length : Nat) = (c.l2.length - T.md.rest.length : Nat)) := Lib.hid rfl
  clear tk rs dn hm h0 hrl hR ok hu hr hT he he0 h
  generalize tx T.md.rest = X at *
  go_enter Tryz.func19, Tryz.ntmps19
  go_upto_region 1 with (fail)
  go_still_tail 9, (by kernel_rfl)
  refine wps_conv cv rfl rfl rfl ?_
  refine wpStill_nil ?_
  change wpList _ _ _ _ _ w.drew
  have C1 := KD.out w.drew ((Below.refl _ _).drew)
  clear d9 d1 cv KD
  generalize w.drew = w1 at C1 ⊢
  go_wp2_with fail
  refine C1.mono ?_
  rintro e w2 ⟨rfl, P2⟩
  clear C1
  obtain ⟨Z2, h2, G2⟩ := P2
  obtain ⟨pc2, a2, T2⟩ := TK.out w2 Z2 h2
  clear TK h2
  go_wp2_with fail
  refine T2.mono ?_
  rintro e w3 ⟨rfl, Z3, h3, G3⟩
  clear T2 a2
  obtain ⟨pc3, o3, k3, a3, b3, R3, S3⟩ := RS.out w3 Z3 h3
  clear RS h3
  have GG := G2.trans G3
  clear G2 G3
  go_upto_region 5 with (fail)
  go_still_tail 13, (by kernel_rfl)
  still_call (flipC R3)
  repeat still_step
  try refine wpStill_nil ?_
  change wpList _ _ _ _ _ w3.drew
  clear a3 b3 R3
  generalize w3.drew = w3' at S3 ⊢
  go_wp2_with fail
  refine S3.mono ?_
  rintro e w4 ⟨rfl, Z4, h4, G4⟩
  clear S3
  obtain ⟨pc4, a4, D4⟩ := DN.out w4 Z4 h4
  clear DN
  go_wp2_with fail
  refine D4.mono ?_
  rintro e w' ⟨rfl, rfl⟩
  clear D4 a4
  rw [hd]
  obtain ⟨x0, y0⟩ := h4.c0
  have P4 := Lib.hid (set_state h4 3)
  have GF := GG.trans G4
  clear h4 G4 GG
  go_upto_region 9 with (fail)
  replace P4 := P4.out
  generalize w4.setCell _ _ = w5 at P4 ⊢
  clear x0 y0
  go_wp2
  go_ret
  exact ⟨rfl, Post.trans GF P4⟩
/-! ### a request that is handed out -/
def zR : Array Value := #[.string ⟨#[]⟩, .string ⟨#[]⟩, .slice none 0 0, .bool false]
theorem rqV_size (q : Rq) (fv : Value) : (rqV q fv).size = 4 := rfl
/-- what is handed out, and what stays -/
def HandPost (w : World) (p : Nat) (Z : Nat → Prop) (c : I) (fv : Value) (w' : World) : Prop := ∃ Z', Has w' p Z' (handed c) ∧ Goes w w' Z Z' ∧ FdsAt w' fv c.q.fs ∧ ∀ b, FB fv c.q.fs b → ¬ Z' b ∧ Z b
theorem HandPost.old {fv : Value} {w1 w2 : World} (h : HandPost w p Z c fv w1) (hb : Below w1.heap.size w1 w2) : HandPost w p Z c fv w2 := by
  obtain ⟨Z', a, g, f, d⟩ := h
  exact ⟨Z', a.old hb, g.trans (Goes.of_below hb Z'), f.below hb, d⟩
theorem hand_key (h : Has w p Z c) : ∃ fv o n k, (∃ o n k, fv = .slice o n k) ∧ Loads Tryz.prog w 36 ⟨p, 4, none⟩ (rqV c.q fv) ∧ p < w.heap.size ∧
    ∀ w1, Below w.heap.size w w1 → w1.cell? ⟨p, 1, none⟩ = some (.slice o n k) ∧ ∃ w2, Stores Tryz.prog w1 52 p 0 #[.int .i64 0, .slice o n k, .int .i64 0, .int .i64 0, .string ⟨#[]⟩, .string ⟨#[]⟩, .slice none 0 0, .bool false, .int .i64 0, .pointer none, .int .i64 0] w2 ∧ HandPost w p Z c fv w2 ∧ w2.heap.size = w1.heap.size ∧ ∀ b, b ≠ p → w2.heap[b]? = w1.heap[b]? := by
  obtain ⟨u, fv, ch, Zc, H⟩ := h
  obtain ⟨o, k, e, _⟩ := H.row.form
  obtain ⟨o2, k2, e2, _⟩ := H.fds.is
  refine ⟨fv, o, c.l2.length, k, ⟨o2, _, k2, e2⟩, H.rq_loads, H.at_.lt, fun w1 hb => ?_⟩
  have H1 := H.old hb
  refine ⟨by rw [← e]; exact H1.c1, _, H1.all_stores (c' := handed c) (u' := .slice o c.l2.length k) (fv' := .slice none 0 0) (ch' := .pointer none) ⟨_, _, _, rfl⟩ ⟨_, _, _, rfl⟩ ⟨_, rfl⟩, ?_, by simp, fun b hb => heap_setRow_other hb⟩
  obtain ⟨a, b⟩ := H1.reset (c' := handed c) (u' := .slice o c.l2.length k) (.inl (by rw [← e])) (by have := H1.row; rw [e] at this; exact this) rfl rfl
  refine ⟨_, ⟨_, _, _, _, a⟩, (Goes.of_below hb Z).trans b, fds_kept H1.fds (by simp) fun b hb => heap_setRow_other fun e => H1.pf (by rw [← e]; exact hb), fun b hb => ⟨?_, H1.zf b hb⟩⟩
  rintro (e3 | e3)
  · exact H1.pf (by rw [← e3]; exact hb)
  · exact H1.uf b (by rw [e]; exact e3) hb
set_option maxHeartbeats 1000000 in
theorem hand_any (h : Has w p Z c) :
    Calls Tryz.prog 20 #[.pointer (some ⟨p, 0, none⟩)] w fun e w' => ∃ fv, e = .returned (.agg (rqV c.q fv)) ∧ (∃ o n k, fv = .slice o n k) ∧ HandPost w p Z c fv w' := by
  have B0 : Below w.heap.size w (w.alloc (.cells zR 36)) := (Below.refl _ _).alloc (Nat.le_refl _) _
  have A0 := At.new w 36 zR
  have h0 := h.old B0
  have ZL := h.lt
  have sz0 : (w.alloc (.cells zR 36)).heap.size = w.heap.size + 1 := by simp
  obtain ⟨fv, o, n, k, hf, L, hp, KY⟩ := hand_key h0
  have K := Lib.hid KY
  have hpw : p < w.heap.size := by
    obtain ⟨_, _, _, _, _, _, hp', _⟩ := hand_key h
    exact hp'
  clear h h0 KY
  have one := rq_one (q := c.q) hf
  unfold zR at A0 B0 K L hp sz0
  go_enter Tryz.func20, Tryz.ntmps20
  go_upto_region 1 with (fail)
  generalize w.alloc (.cells #[.string ⟨#[]⟩, .string ⟨#[]⟩, .slice none 0 0, .bool false] 36) = w0 at A0 B0 K L hp sz0 ⊢
  obtain ⟨w1, S1, A1, B1, Z1⟩ := keep (P := Tryz.prog) (ty := 36) w0 #[.string ⟨#[]⟩, .string ⟨#[]⟩, .slice none 0 0, .bool false] (rqV c.q fv) 36 (by rw [rqV_size]; kernel_rfl) rfl one
  obtain ⟨d1, w2, S2, P2, Z2, O2⟩ := K.out w1 B1
  have A2 : At w2 w0.heap.size 36 (rqV c.q fv) := A1.same (O2 _ (by omega))
  have AB := A0.old B1
  have A3 : At w2 w.heap.size 36 zR := AB.same (O2 _ (by omega))
  have L2 : Loads Tryz.prog w2 36 ⟨w0.heap.size, 0, none⟩ (rqV c.q fv) := A2.loads (by kernel_rfl) (by rw [rqV_size]; kernel_rfl)
  have S3 : Stores Tryz.prog w2 36 w.heap.size 0 (rqV c.q fv) (w2.setRow w.heap.size (rqV c.q fv)) := A3.stores (by rw [rqV_size]; kernel_rfl) rfl one
  have L3 : Loads Tryz.prog (w2.setRow w.heap.size (rqV c.q fv)) 36 ⟨w.heap.size, 0, none⟩ (rqV c.q fv) := (A3.row (rqV c.q fv)).loads (by kernel_rfl) (by rw [rqV_size]; kernel_rfl)
  have P3 : HandPost w p Z c fv (w2.setRow w.heap.size (rqV c.q fv)) := by
    obtain ⟨Z', a, g, f, d⟩ := P2
    have hB : ¬ Z' w.heap.size := fun e => by
      rcases g.sub _ e with x | x
      · have := ZL _ x; omega
      · omega
    have ho : ∀ b, b ≠ w.heap.size → (w2.setRow w.heap.size (rqV c.q fv)).heap[b]? = w2.heap[b]? := fun b hb => heap_setRow_other hb
    have sz : (w2.setRow w.heap.size (rqV c.q fv)).heap.size = w2.heap.size := by simp
    refine ⟨Z', a.kept (by omega) fun b hb => ho b fun e => hB (by rw [← e]; exact hb), ⟨g.os.trans B0.os, g.tape.trans B0.tape, g.output.trans B0.output, by rw [sz]; exact Nat.le_trans B0.size g.size, fun b h1 h2 => (ho b (by omega)).trans ((g.block b (by omega) h2).trans (B0.block b h1)), fun b hb => ?_⟩, fds_kept f (by omega) fun b hb => ho b fun e => ?_, d⟩
    · rcases g.sub b hb with x | x
      · exact .inl x
      · exact .inr (by omega)
    · have := ZL b (d b hb).2
      omega
  have P := Lib.hid P3
  clear P2 P3 A1 A2 A3 AB B1 O2 K ZL sz0 Z1 Z2
  generalize w2.setRow w.heap.size (rqV c.q fv) = w3 at S3 L3 P
  go_upto_region 2 with (first | refine wpl_load L rfl rfl rfl ?_ | refine wpl_store S1 rfl rfl rfl rfl rfl ?_)
  clear S1 L
  go_upto_region 3 with (refine wpl_store S2 rfl rfl rfl rfl rfl ?_)
  go_wp2_with (first | refine wpl_load L2 rfl rfl rfl ?_ | refine wpl_store S3 rfl rfl rfl rfl rfl ?_)
  exact bodyPost_ret (results_one Tryz.results20 _ rfl L3) rfl ⟨fv, rfl, hf, P.out⟩
end
end Go.Proofs.YtdldoklkenhopaaGreatDoor.In
