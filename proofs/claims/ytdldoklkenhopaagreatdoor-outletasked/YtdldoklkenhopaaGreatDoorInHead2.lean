/-
  Contract of begin at a head that is right.
-/
import Derived.Test.YtdldoklkenhopaaGreatDoorInHead
namespace Go.Proofs.YtdldoklkenhopaaGreatDoor.In
open Go.RowKit Go.PlainAid
open Hx Fi Ch
set_option linter.unusedVariables false
set_option maxRecDepth 20000
set_option linter.unusedSimpArgs false

section
variable {w : World} {p : Nat} {Z : Nat → Prop} {c : I}
set_option maxHeartbeats 1000000 in
theorem begin_sized (h : Has w p Z c) {H : Hd} {q : Rq} {f : Fr} {v : Value} (hq : headQ H = .ok (q, f)) (hc : f.c = false) (hv : FdsAt w v H.list) (hn : ∀ b, FB v H.list b → ¬ Z b) (hs : Short H.list) (hl : H.start.length ≤ 4096) {w0 : World} {Z0 : Nat → Prop} (g0 : Goes w0 w Z0 Z) (hn0 : ∀ b, FB v H.list b → w0.heap.size ≤ b) :
    Calls Tryz.prog 38 #[.pointer (some ⟨p, 0, none⟩), .string (tx H.start), v] w fun e w' => e = .returned (.int .i64 0) ∧ Post w0 w' p Z0 { c with st := 1, due := (f.n.toNat : Int), q := q } := by
  have hmax : max f.n 0 = (f.n.toNat : Int) := by omega
  obtain ⟨he, h0, hqf, m, t, k, hln, hqe, hho⟩ := headQ_ok hq
  have rl := fun w => line_any (tx H.start) w (by rw [tx_size]; omega)
  rw [ls_tx, hln] at rl
  simp only [ln_ok] at rl
  have hk := (lnQ_k hln).1
  have hh := fun w1 hb => hasHost_any (FdsAt.below hv (w' := w1) hb) hs k hk
  rw [decide_eq_true hho] at hh
  have ff := fun w1 hb => frame_any 4096 (FdsAt.below hv (w' := w1) hb) (by have := hs.len; omega) hs.reach (by omega) (by omega)
  rw [← he, h0, hc] at ff
  have kc : ∀ w5 Z5, Goes w w5 Z Z5 → Calls Tryz.prog 60 #[v, .int .i64 (k : Int)] w5 fun e w' => e = .returned (.bool (closesF H.list k)) ∧ Below w5.heap.size w5 w' := fun w5 Z5 g => closes_any (k : Int) (by omega) (by omega) (fds_go hv hn g).1 hs
  have kr : ∀ w5 Z5 w6 c', Goes w w5 Z Z5 → Has w5 p Z5 c' → Below w5.heap.size w5 w6 → ∃ w', Stores Tryz.prog w6 36 p 4 #[.string (tx m), .string (tx t), v, .bool (closesF H.list k)] w' ∧ Post w0 w' p Z0 { c' with q := q } := fun w5 Z5 w6 c' g h5 hb => by
    obtain ⟨f5, n5⟩ := fds_go hv hn g
    have f6 := f5.below hb
    rw [← hqf] at f6 n5
    obtain ⟨w', a, b⟩ := has_req (h5.old hb) q f6 n5
    refine ⟨w', ?_, b w0 Z0 ((g0.trans g).trans (Goes.of_below hb Z5)) (by rw [hqf]; exact hn0)⟩
    have e : rqV q v = #[.string (tx m), .string (tx t), v, .bool (closesF H.list k)] := by rw [hqe]; rfl
    rw [← e]; exact a
  have HH := Lib.hid hh
  have FF := Lib.hid ff
  have KC := Lib.hid kc
  have KR := Lib.hid kr
  have HZ := Lib.hid h
  obtain ⟨base, cap, rfl, _, _⟩ := hv.is
  clear hh ff kc kr hv hn hs hl hk hln hqe hho hqf hn0 g0 hq he h0
  generalize tx H.start = X at *
  generalize f.n.toNat = D at *
  generalize f.n = N at *
  go_enter Tryz.func38, Tryz.ntmps38
  go_wp2_with fail
  refine (rl _).mono ?_
  rintro e w1 ⟨rfl, F1⟩
  clear rl
  go_wp2_with fail
  refine (HH.out w1 F1).mono ?_
  rintro e w2 ⟨rfl, F2⟩
  replace F1 := F1.trans (F2.mono F1.size)
  clear HH F2
  go_wp2_with fail
  refine (FF.out w2 F1).mono ?_
  rintro e w3 ⟨rfl, F2⟩
  replace F1 := F1.trans (F2.mono F1.size)
  clear FF F2
  have h3 := HZ.out.old F1
  have G3 := Goes.of_below F1 Z
  obtain ⟨x0, y0⟩ := h3.c0
  have P4 := Lib.hid (set_state h3 1)
  clear F1 HZ
  go_upto_region 8 with (fail)
  replace P4 := P4.out
  generalize w3.setCell _ _ = w4 at P4 ⊢
  clear x0 y0
  obtain ⟨Z4, h4, G4⟩ := P4
  obtain ⟨x8, y8⟩ := h4.c8
  have P5 := Lib.hid (set_due h4 (D : Int))
  clear h4
  go_upto_region 14 with (fail)
  replace P5 := P5.out
  generalize w4.setCell _ _ = w5 at P5 ⊢
  clear x8 y8 hmax
  obtain ⟨Z5, h5, G5⟩ := P5
  replace G5 := (G3.trans G4).trans G5
  clear G3 G4
  have C6 := KC.out w5 Z5 G5
  clear KC
  go_wp2_with fail
  refine C6.mono ?_
  rintro e w6 ⟨rfl, F6⟩
  obtain ⟨w7, S7, P7⟩ := KR.out w5 Z5 w6 _ G5 h5 F6
  clear C6 KR h5 G5 F6
  go_wp2_with (refine wpl_store S7 rfl rfl rfl rfl rfl ?_)
  go_ret
  exact ⟨rfl, P7⟩
set_option maxHeartbeats 1000000 in
theorem begin_chunked (h : Has w p Z c) {H : Hd} {q : Rq} {f : Fr} {v : Value} (hq : headQ H = .ok (q, f)) (hc : f.c = true) (hv : FdsAt w v H.list) (hn : ∀ b, FB v H.list b → ¬ Z b) (hs : Short H.list) (hl : H.start.length ≤ 4096) {w0 : World} {Z0 : Nat → Prop} (g0 : Goes w0 w Z0 Z) (hn0 : ∀ b, FB v H.list b → w0.heap.size ≤ b) :
    Calls Tryz.prog 38 #[.pointer (some ⟨p, 0, none⟩), .string (tx H.start), v] w fun e w' => e = .returned (.int .i64 0) ∧ Post w0 w' p Z0 { c with st := 2, R := some init, q := q } := by
  obtain ⟨he, h0, hqf, m, t, k, hln, hqe, hho⟩ := headQ_ok hq
  have rl := fun w => line_any (tx H.start) w (by rw [tx_size]; omega)
  rw [ls_tx, hln] at rl
  simp only [ln_ok] at rl
  have hk := (lnQ_k hln).1
  have hh := fun w1 hb => hasHost_any (FdsAt.below hv (w' := w1) hb) hs k hk
  rw [decide_eq_true hho] at hh
  have ff := fun w1 hb => frame_any 4096 (FdsAt.below hv (w' := w1) hb) (by have := hs.len; omega) hs.reach (by omega) (by omega)
  rw [← he, h0, hc] at ff
  have kc : ∀ w5 Z5, Goes w w5 Z Z5 → Calls Tryz.prog 60 #[v, .int .i64 (k : Int)] w5 fun e w' => e = .returned (.bool (closesF H.list k)) ∧ Below w5.heap.size w5 w' := fun w5 Z5 g => closes_any (k : Int) (by omega) (by omega) (fds_go hv hn g).1 hs
  have kr : ∀ w5 Z5 w6 c', Goes w w5 Z Z5 → Has w5 p Z5 c' → Below w5.heap.size w5 w6 → ∃ w', Stores Tryz.prog w6 36 p 4 #[.string (tx m), .string (tx t), v, .bool (closesF H.list k)] w' ∧ Post w0 w' p Z0 { c' with q := q } := fun w5 Z5 w6 c' g h5 hb => by
    obtain ⟨f5, n5⟩ := fds_go hv hn g
    have f6 := f5.below hb
    rw [← hqf] at f6 n5
    obtain ⟨w', a, b⟩ := has_req (h5.old hb) q f6 n5
    refine ⟨w', ?_, b w0 Z0 ((g0.trans g).trans (Goes.of_below hb Z5)) (by rw [hqf]; exact hn0)⟩
    have e : rqV q v = #[.string (tx m), .string (tx t), v, .bool (closesF H.list k)] := by rw [hqe]; rfl
    rw [← e]; exact a
  have HH := Lib.hid hh
  have FF := Lib.hid ff
  have KC := Lib.hid kc
  have KR := Lib.hid kr
  have HZ := Lib.hid h
  obtain ⟨base, cap, rfl, _, _⟩ := hv.is
  clear hh ff kc kr hv hn hs hl hk hln hqe hho hqf hn0 g0 hq he h0
  generalize tx H.start = X at *
  generalize f.n = N at *
  go_enter Tryz.func38, Tryz.ntmps38
  go_wp2_with fail
  refine (rl _).mono ?_
  rintro e w1 ⟨rfl, F1⟩
  clear rl
  go_wp2_with fail
  refine (HH.out w1 F1).mono ?_
  rintro e w2 ⟨rfl, F2⟩
  replace F1 := F1.trans (F2.mono F1.size)
  clear HH F2
  go_wp2_with fail
  refine (FF.out w2 F1).mono ?_
  rintro e w3 ⟨rfl, F2⟩
  replace F1 := F1.trans (F2.mono F1.size)
  clear FF F2
  have h3 := HZ.out.old F1
  have G3 := Goes.of_below F1 Z
  obtain ⟨x0, y0⟩ := h3.c0
  have P4 := Lib.hid (set_state h3 2)
  clear F1 HZ
  go_upto_region 13 with (fail)
  replace P4 := P4.out
  generalize w3.setCell _ _ = w4 at P4 ⊢
  clear x0 y0
  obtain ⟨Z4, h4, G4⟩ := P4
  have NW := new_of 4096 w4 (by omega) (by omega)
  go_wp2_with fail
  refine NW.mono ?_
  rintro e w5 ⟨rfl, F5, O5⟩
  clear NW
  have h5 := h4.old F5
  obtain ⟨⟨v9, x9⟩, y9⟩ := h5.c9
  have P6 := Lib.hid (has_chk h5 O5 F5 h4.lt (fun b hb => by rw [hb]; exact Nat.le_refl _))
  clear h4 h5 O5 F5
  go_upto_region 14 with (fail)
  replace P6 := P6.out
  generalize w5.setCell _ _ = w5 at P6 ⊢
  clear x9 y9
  obtain ⟨Z5, h5, G5⟩ := P6
  replace G5 := (G3.trans G4).trans G5
  clear G3 G4
  have C6 := KC.out w5 Z5 G5
  clear KC
  go_wp2_with fail
  refine C6.mono ?_
  rintro e w6 ⟨rfl, F6⟩
  obtain ⟨w7, S7, P7⟩ := KR.out w5 Z5 w6 _ G5 h5 F6
  clear C6 KR h5 G5 F6
  go_wp2_with (refine wpl_store S7 rfl rfl rfl rfl rfl ?_)
  go_ret
  exact ⟨rfl, P7⟩
end
end Go.Proofs.YtdldoklkenhopaaGreatDoor.In
