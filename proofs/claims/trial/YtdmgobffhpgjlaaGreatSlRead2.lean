/-
  Contract of Read: what it answers for every text of at most 2^40 bytes.
-/
import Derived.Test.YtdmgobffhpgjlaaGreatSlBody
namespace Go.Proofs.YtdmgobffhpgjlaaGreat.Sl
open Go.RowKit Go.PlainAid Go.Proofs.YtdmgobffhpgjlaaGreat.Cr
set_option linter.unusedVariables false
set_option maxRecDepth 20000
set_option linter.unusedSimpArgs false

theorem results_three {P : Program} {fn : Func} {p q u : Tmp} {ty : TypeId} (h : fn.results = #[.cell p ty, .tmp q, .tmp u]) (tmps : Array Value) {w : World} {g : Nat} {cs : Array Value} {v v' : Value}
    (hp : tmps.getD p undef = .pointer (some ⟨g, 0, none⟩)) (hq : tmps.getD q undef = v) (hu : tmps.getD u undef = v') (hl : Loads P w ty ⟨g, 0, none⟩ cs) :
    (results fn tmps).run P w = .ok (.tuple #[.agg cs, v, v']) w := by
  have hp' : tmps[p]?.getD undef = .pointer (some ⟨g, 0, none⟩) := by simpa using hp
  have hq' : tmps[q]?.getD undef = v := by simpa using hq
  have hu' : tmps[u]?.getD undef = v' := by simpa using hu
  have hl' : (loadVar ty ⟨g, 0, none⟩).run P w = .ok (.agg cs) w := hl
  simp [results, h, hp', hq', hu', asAddr, hl']
/-- the answer's variable, made first -/
theorem ans_start (w : World) : ∃ R, R = w.heap.size ∧ ∀ W, W = w.alloc (.cells #[.int .i64 0, .string ⟨#[]⟩, .string ⟨#[]⟩, .int .u8 0, .int .u8 0, .int .u8 0, .int .u8 0, .int .u8 0, .int .u8 0, .int .u8 0, .int .u8 0, .int .u8 0, .int .u8 0, .int .u8 0, .int .u8 0, .int .u8 0, .int .u8 0, .int .u8 0, .int .u8 0, .int .u8 0, .int .u8 0, .int .u8 0, .int .u8 0, .int .u8 0, .int .u8 0, .int .u8 0, .int .u8 0, .int .u8 0, .int .u8 0, .int .u8 0, .int .u8 0, .int .u8 0, .int .u8 0, .int .u8 0, .int .u8 0, .string ⟨#[]⟩, .int .i64 0, .int .i64 0] 39) → At W R 39 (slV Sp.zero) ∧ Below w.heap.size w W := by
  refine ⟨_, rfl, fun W hW => ?_⟩
  subst hW
  rw [zslip]
  exact ⟨At.new _ _ _, (Below.refl _ _).alloc (Nat.le_refl _) _⟩
/-- nothing is laid into the answer -/
theorem zero_stores {w : World} {R : Nat} (h : At w R 39 (slV Sp.zero)) : Stores Tryz.prog w 39 R 0 #[.int .i64 0, .string ⟨#[]⟩, .string ⟨#[]⟩, .int .u8 0, .int .u8 0, .int .u8 0, .int .u8 0, .int .u8 0, .int .u8 0, .int .u8 0, .int .u8 0, .int .u8 0, .int .u8 0, .int .u8 0, .int .u8 0, .int .u8 0, .int .u8 0, .int .u8 0, .int .u8 0, .int .u8 0, .int .u8 0, .int .u8 0, .int .u8 0, .int .u8 0, .int .u8 0, .int .u8 0, .int .u8 0, .int .u8 0, .int .u8 0, .int .u8 0, .int .u8 0, .int .u8 0, .int .u8 0, .int .u8 0, .int .u8 0, .string ⟨#[]⟩, .int .i64 0, .int .i64 0] (w.setRow R (slV Sp.zero)) := by
  rw [zslip]
  exact sl_stores h zeros_dig.len zeros_dig.len
set_option maxHeartbeats 1000000 in
theorem read_err (s : ByteArray) (w : World) (n : Int) (hn : n ≠ 0) (hc : ∀ w, Calls Tryz.prog 90 #[.string s] w fun e w' => e = .returned (.tuple #[.string ⟨#[]⟩, .int .i64 n]) ∧ Below w.heap.size w w') :
    Calls Tryz.prog 67 #[.string s] w fun e w' => e = .returned (.tuple #[.agg (slV Sp.zero), .int .i64 0, .int .i64 n]) ∧ Below w.heap.size w w' := by
  obtain ⟨R, e0, st⟩ := ans_start w
  have E0 := Lib.hid e0; have ST := Lib.hid st
  clear e0 st
  have n1 : (n != 0) = true := by simpa using hn
  have HC := Lib.hid hc
  clear hc
  go_enter Tryz.func67, Tryz.ntmps67
  go_upto_region 1 with (fail)
  rw [← E0.out]
  obtain ⟨w1, hw1⟩ : ∃ w1, w1 = w.alloc (.cells #[.int .i64 0, .string ⟨#[]⟩, .string ⟨#[]⟩, .int .u8 0, .int .u8 0, .int .u8 0, .int .u8 0, .int .u8 0, .int .u8 0, .int .u8 0, .int .u8 0, .int .u8 0, .int .u8 0, .int .u8 0, .int .u8 0, .int .u8 0, .int .u8 0, .int .u8 0, .int .u8 0, .int .u8 0, .int .u8 0, .int .u8 0, .int .u8 0, .int .u8 0, .int .u8 0, .int .u8 0, .int .u8 0, .int .u8 0, .int .u8 0, .int .u8 0, .int .u8 0, .int .u8 0, .int .u8 0, .int .u8 0, .int .u8 0, .string ⟨#[]⟩, .int .i64 0, .int .i64 0] 39) := ⟨_, rfl⟩
  obtain ⟨hr, hb⟩ := ST.out _ hw1
  rw [← hw1]
  clear hw1 ST
  go_wp2_with fail
  refine (HC.out _).mono ?_
  rintro e w2 ⟨rfl, G⟩
  replace hr := hr.old G
  replace hb := hb.trans (G.mono hb.size)
  clear G HC
  have S := zero_stores hr
  have R1 := hr.row (slV Sp.zero)
  have F1 := below_row (B := R) (cs := slV Sp.zero) hb (by have := E0.out; omega)
  generalize w2.setRow R (slV Sp.zero) = w3 at S R1 F1
  go_wp2_with (refine wpl_store S rfl rfl rfl rfl rfl ?_)
  exact bodyPost_ret (results_three Tryz.results67 _ rfl rfl rfl (sl_loads R1 zeros_dig.len)) rfl ⟨rfl, F1⟩
theorem rs_okay {r : Rd} (h : r.rest.size ≤ 1099511627776) : Okay (rsX r) := by
  have a1 := tkR_le r 1
  have q1 := txR_le (rs1 r)
  have t : ∀ q : Rd, (txV q).size ≤ 255 := fun q => by
    have h1 := tkV_size (tkR q 1) (txN q)
    have h2 := txN_lt q
    unfold txV
    omega
  have z : none8.size ≤ 9223372036854775807 := by decide
  refine ⟨?_, ?_, ?_, ?_⟩
  · show (rT _ _).1.1.size ≤ _
    unfold rT; split
    · have := t (rs1 r); dsimp only; omega
    · exact z
  · show (rT _ _).1.2.size ≤ _
    unfold rT; split
    · have := t (txR (rs1 r)); dsimp only; omega
    · exact z
  · show (rM _ _).1.1.size ≤ _
    unfold rM; split
    · have := t (rs3 r); dsimp only; omega
    · exact z
  · show Dig (rD _ _).1
    unfold rD; split
    · exact dgV_dig _
    · exact zeros_dig
set_option maxHeartbeats 1000000 in
theorem read_torn (s b : ByteArray) (w : World) (hz : b.size ≤ 1099511627776) (hc : ∀ w, Calls Tryz.prog 90 #[.string s] w fun e w' => e = .returned (.tuple #[.string b, .int .i64 0]) ∧ Below w.heap.size w w') (ht : (rsR ⟨b, false⟩).torn = true) :
    Calls Tryz.prog 67 #[.string s] w fun e w' => e = .returned (.tuple #[.agg (slV Sp.zero), .int .i64 0, .int .i64 3]) ∧ Below w.heap.size w w' := by
  obtain ⟨R, e0, st⟩ := ans_start w
  have E0 := Lib.hid e0; have ST := Lib.hid st
  clear e0 st
  have HC := Lib.hid hc
  clear hc
  have ok := rs_okay (r := ⟨b, false⟩) hz
  have hxd := ok.dig.len
  generalize hX : rsX ⟨b, false⟩ = x at *
  generalize hQ : rsR ⟨b, false⟩ = q at *
  have HX := Lib.hid hX; have HQ := Lib.hid hQ
  clear hX hQ
  go_enter Tryz.func67, Tryz.ntmps67
  go_upto_region 1 with (fail)
  rw [← E0.out]
  obtain ⟨w1, hw1⟩ : ∃ w1, w1 = w.alloc (.cells #[.int .i64 0, .string ⟨#[]⟩, .string ⟨#[]⟩, .int .u8 0, .int .u8 0, .int .u8 0, .int .u8 0, .int .u8 0, .int .u8 0, .int .u8 0, .int .u8 0, .int .u8 0, .int .u8 0, .int .u8 0, .int .u8 0, .int .u8 0, .int .u8 0, .int .u8 0, .int .u8 0, .int .u8 0, .int .u8 0, .int .u8 0, .int .u8 0, .int .u8 0, .int .u8 0, .int .u8 0, .int .u8 0, .int .u8 0, .int .u8 0, .int .u8 0, .int .u8 0, .int .u8 0, .int .u8 0, .int .u8 0, .int .u8 0, .string ⟨#[]⟩, .int .i64 0, .int .i64 0] 39) := ⟨_, rfl⟩
  obtain ⟨hr, hb⟩ := ST.out _ hw1
  rw [← hw1]
  clear hw1 ST
  go_wp2_with fail
  refine (HC.out _).mono ?_
  rintro e w2 ⟨rfl, G⟩
  replace hr := hr.old G
  have HRL := Lib.hid hr.lt
  replace hb := hb.trans (G.mono hb.size)
  clear G HC
  obtain ⟨w3, S3, hd, G3, Z3⟩ := keep (P := Tryz.prog) (ty := 141) w2 #[.string ⟨#[]⟩, .bool false] (rdV ⟨b, false⟩) 141 (by kernel_rfl) rfl (by simp [rdV, Value.oneCell'])
  replace hr := hr.old G3
  replace hb := hb.trans (G3.mono hb.size)
  have hRD : R ≠ w2.heap.size := by have := HRL.out; omega
  have hDn : w.heap.size ≤ w2.heap.size := by have := HRL.out; have := E0.out; omega
  clear G3 Z3
  go_upto_region 5 with (refine wpl_store S3 rfl rfl rfl rfl rfl ?_)
  clear S3
  generalize w2.heap.size = D at hd hRD hDn ⊢
  go_wp2_with fail
  refine (rslip_any hd hz).mono ?_
  rintro e w4 ⟨rfl, hd4, T4⟩
  rw [HX.out]
  rw [HQ.out] at hd4
  replace hr := hr.turns T4 hRD
  replace hb := T4.below hb hb.size hDn
  clear hd T4
  obtain ⟨w5, S5, hx, G5, Z5⟩ := x_keep w4 hxd
  have hne5 : R ≠ w4.heap.size := by have := hr.lt; omega
  replace hr := hr.old G5
  replace hd4 := hd4.old G5
  replace hb := hb.trans (G5.mono hb.size)
  clear G5 Z5
  go_upto_region 6 with (refine wpl_store S5 rfl rfl rfl rfl rfl ?_)
  clear S5
  generalize w4.heap.size = X at hx hne5 ⊢
  have c0 : w5.cell? ⟨D, 0, none⟩ = some (.string q.rest) := hd4.cell 0
  have c1 : w5.cell? ⟨D, 1, none⟩ = some (.bool true) := by rw [hd4.cell]; show some (Value.bool q.torn) = _; rw [ht]
  have S := zero_stores hr
  have R1 := hr.row (slV Sp.zero)
  have F1 := below_row (B := R) (cs := slV Sp.zero) hb (by have := E0.out; omega)
  generalize w5.setRow R (slV Sp.zero) = w7 at S R1 F1
  go_wp2_with (refine wpl_store S rfl rfl rfl rfl rfl ?_)
  exact bodyPost_ret (results_three Tryz.results67 _ rfl rfl rfl (sl_loads R1 zeros_dig.len)) rfl ⟨rfl, F1⟩
set_option maxHeartbeats 1000000 in
theorem read_left (s b : ByteArray) (w : World) (hz : b.size ≤ 1099511627776) (hc : ∀ w, Calls Tryz.prog 90 #[.string s] w fun e w' => e = .returned (.tuple #[.string b, .int .i64 0]) ∧ Below w.heap.size w w') (ht : (rsR ⟨b, false⟩).torn = false) (hl : (rsR ⟨b, false⟩).rest ≠ none8) :
    Calls Tryz.prog 67 #[.string s] w fun e w' => e = .returned (.tuple #[.agg (slV Sp.zero), .int .i64 0, .int .i64 3]) ∧ Below w.heap.size w w' := by
  obtain ⟨R, e0, st⟩ := ans_start w
  have E0 := Lib.hid e0; have ST := Lib.hid st
  clear e0 st
  have HC := Lib.hid hc
  clear hc
  have ok := rs_okay (r := ⟨b, false⟩) hz
  have hxd := ok.dig.len
  generalize hX : rsX ⟨b, false⟩ = x at *
  generalize hQ : rsR ⟨b, false⟩ = q at *
  have HX := Lib.hid hX; have HQ := Lib.hid hQ
  clear hX hQ
  go_enter Tryz.func67, Tryz.ntmps67
  go_upto_region 1 with (fail)
  rw [← E0.out]
  obtain ⟨w1, hw1⟩ : ∃ w1, w1 = w.alloc (.cells #[.int .i64 0, .string ⟨#[]⟩, .string ⟨#[]⟩, .int .u8 0, .int .u8 0, .int .u8 0, .int .u8 0, .int .u8 0, .int .u8 0, .int .u8 0, .int .u8 0, .int .u8 0, .int .u8 0, .int .u8 0, .int .u8 0, .int .u8 0, .int .u8 0, .int .u8 0, .int .u8 0, .int .u8 0, .int .u8 0, .int .u8 0, .int .u8 0, .int .u8 0, .int .u8 0, .int .u8 0, .int .u8 0, .int .u8 0, .int .u8 0, .int .u8 0, .int .u8 0, .int .u8 0, .int .u8 0, .int .u8 0, .int .u8 0, .string ⟨#[]⟩, .int .i64 0, .int .i64 0] 39) := ⟨_, rfl⟩
  obtain ⟨hr, hb⟩ := ST.out _ hw1
  rw [← hw1]
  clear hw1 ST
  go_wp2_with fail
  refine (HC.out _).mono ?_
  rintro e w2 ⟨rfl, G⟩
  replace hr := hr.old G
  have HRL := Lib.hid hr.lt
  replace hb := hb.trans (G.mono hb.size)
  clear G HC
  obtain ⟨w3, S3, hd, G3, Z3⟩ := keep (P := Tryz.prog) (ty := 141) w2 #[.string ⟨#[]⟩, .bool false] (rdV ⟨b, false⟩) 141 (by kernel_rfl) rfl (by simp [rdV, Value.oneCell'])
  replace hr := hr.old G3
  replace hb := hb.trans (G3.mono hb.size)
  have hRD : R ≠ w2.heap.size := by have := HRL.out; omega
  have hDn : w.heap.size ≤ w2.heap.size := by have := HRL.out; have := E0.out; omega
  clear G3 Z3
  go_upto_region 5 with (refine wpl_store S3 rfl rfl rfl rfl rfl ?_)
  clear S3
  generalize w2.heap.size = D at hd hRD hDn ⊢
  go_wp2_with fail
  refine (rslip_any hd hz).mono ?_
  rintro e w4 ⟨rfl, hd4, T4⟩
  rw [HX.out]
  rw [HQ.out] at hd4
  replace hr := hr.turns T4 hRD
  replace hb := T4.below hb hb.size hDn
  clear hd T4
  obtain ⟨w5, S5, hx, G5, Z5⟩ := x_keep w4 hxd
  have hne5 : R ≠ w4.heap.size := by have := hr.lt; omega
  replace hr := hr.old G5
  replace hd4 := hd4.old G5
  replace hb := hb.trans (G5.mono hb.size)
  clear G5 Z5
  go_upto_region 6 with (refine wpl_store S5 rfl rfl rfl rfl rfl ?_)
  clear S5
  generalize w4.heap.size = X at hx hne5 ⊢
  have c0 : w5.cell? ⟨D, 0, none⟩ = some (.string q.rest) := hd4.cell 0
  have c1 : w5.cell? ⟨D, 1, none⟩ = some (.bool false) := by rw [hd4.cell]; show some (Value.bool q.torn) = _; rw [ht]
  have ne : (q.rest.toList != []) = true := by
    simp only [bne_iff_ne, ne_eq]
    intro c
    apply hl
    apply ByteArray.ext
    rw [ByteArray.toList_eq] at c
    exact Array.toList_eq_nil_iff.1 c
  have ne2 : ¬ q.rest.toList = [] := by simpa using ne
  have ne3 : (q.rest.toList != (⟨#[]⟩ : ByteArray).toList) = true := by rw [show (⟨#[]⟩ : ByteArray).toList = [] by rw [ByteArray.toList_eq]]; exact ne
  have S := zero_stores hr
  have R1 := hr.row (slV Sp.zero)
  have F1 := below_row (B := R) (cs := slV Sp.zero) hb (by have := E0.out; omega)
  generalize w5.setRow R (slV Sp.zero) = w7 at S R1 F1
  go_wp2_with (refine wpl_store S rfl rfl rfl rfl rfl ?_)
  exact bodyPost_ret (results_three Tryz.results67 _ rfl rfl rfl (sl_loads R1 zeros_dig.len)) rfl ⟨rfl, F1⟩
set_option maxHeartbeats 1000000 in
theorem read_form (s b : ByteArray) (w : World) (hz : b.size ≤ 1099511627776) (hc : ∀ w, Calls Tryz.prog 90 #[.string s] w fun e w' => e = .returned (.tuple #[.string b, .int .i64 0]) ∧ Below w.heap.size w w') (ht : (rsR ⟨b, false⟩).torn = false) (hl : (rsR ⟨b, false⟩).rest = none8) (hcan : ¬ Can (rsX ⟨b, false⟩)) :
    Calls Tryz.prog 67 #[.string s] w fun e w' => e = .returned (.tuple #[.agg (slV Sp.zero), .int .i64 0, .int .i64 3]) ∧ Below w.heap.size w w' := by
  obtain ⟨R, e0, st⟩ := ans_start w
  have E0 := Lib.hid e0; have ST := Lib.hid st
  clear e0 st
  have HC := Lib.hid hc
  clear hc
  have ok := rs_okay (r := ⟨b, false⟩) hz
  have hxd := ok.dig.len
  generalize hX : rsX ⟨b, false⟩ = x at *
  generalize hQ : rsR ⟨b, false⟩ = q at *
  have HX := Lib.hid hX; have HQ := Lib.hid hQ
  clear hX hQ
  go_enter Tryz.func67, Tryz.ntmps67
  go_upto_region 1 with (fail)
  rw [← E0.out]
  obtain ⟨w1, hw1⟩ : ∃ w1, w1 = w.alloc (.cells #[.int .i64 0, .string ⟨#[]⟩, .string ⟨#[]⟩, .int .u8 0, .int .u8 0, .int .u8 0, .int .u8 0, .int .u8 0, .int .u8 0, .int .u8 0, .int .u8 0, .int .u8 0, .int .u8 0, .int .u8 0, .int .u8 0, .int .u8 0, .int .u8 0, .int .u8 0, .int .u8 0, .int .u8 0, .int .u8 0, .int .u8 0, .int .u8 0, .int .u8 0, .int .u8 0, .int .u8 0, .int .u8 0, .int .u8 0, .int .u8 0, .int .u8 0, .int .u8 0, .int .u8 0, .int .u8 0, .int .u8 0, .int .u8 0, .string ⟨#[]⟩, .int .i64 0, .int .i64 0] 39) := ⟨_, rfl⟩
  obtain ⟨hr, hb⟩ := ST.out _ hw1
  rw [← hw1]
  clear hw1 ST
  go_wp2_with fail
  refine (HC.out _).mono ?_
  rintro e w2 ⟨rfl, G⟩
  replace hr := hr.old G
  have HRL := Lib.hid hr.lt
  replace hb := hb.trans (G.mono hb.size)
  clear G HC
  obtain ⟨w3, S3, hd, G3, Z3⟩ := keep (P := Tryz.prog) (ty := 141) w2 #[.string ⟨#[]⟩, .bool false] (rdV ⟨b, false⟩) 141 (by kernel_rfl) rfl (by simp [rdV, Value.oneCell'])
  replace hr := hr.old G3
  replace hb := hb.trans (G3.mono hb.size)
  have hRD : R ≠ w2.heap.size := by have := HRL.out; omega
  have hDn : w.heap.size ≤ w2.heap.size := by have := HRL.out; have := E0.out; omega
  clear G3 Z3
  go_upto_region 5 with (refine wpl_store S3 rfl rfl rfl rfl rfl ?_)
  clear S3
  generalize w2.heap.size = D at hd hRD hDn ⊢
  go_wp2_with fail
  refine (rslip_any hd hz).mono ?_
  rintro e w4 ⟨rfl, hd4, T4⟩
  rw [HX.out]
  rw [HQ.out] at hd4
  replace hr := hr.turns T4 hRD
  replace hb := T4.below hb hb.size hDn
  clear hd T4
  obtain ⟨w5, S5, hx, G5, Z5⟩ := x_keep w4 hxd
  have hne5 : R ≠ w4.heap.size := by have := hr.lt; omega
  replace hr := hr.old G5
  replace hd4 := hd4.old G5
  replace hb := hb.trans (G5.mono hb.size)
  clear G5 Z5
  go_upto_region 6 with (refine wpl_store S5 rfl rfl rfl rfl rfl ?_)
  clear S5
  generalize w4.heap.size = X at hx hne5 ⊢
  have c0 : w5.cell? ⟨D, 0, none⟩ = some (.string q.rest) := hd4.cell 0
  have c1 : w5.cell? ⟨D, 1, none⟩ = some (.bool false) := by rw [hd4.cell]; show some (Value.bool q.torn) = _; rw [ht]
  rw [hl] at c0
  have nz : none8.toList.isEmpty = true := by rw [ByteArray.toList_eq]; rfl
  have LX := sl_loads hx hxd
  go_wp2_with (refine wpl_load_in LX rfl rfl rfl ?_)
  refine (good_any x _ ok).mono ?_
  rintro e w6 ⟨rfl, G6⟩
  rw [canB_no hcan]
  replace hr := hr.old G6
  replace hx := hx.old G6
  replace hb := hb.trans (G6.mono hb.size)
  clear LX c0 c1 hd4 G6
  have S := zero_stores hr
  have R1 := hr.row (slV Sp.zero)
  have F1 := below_row (B := R) (cs := slV Sp.zero) hb (by have := E0.out; omega)
  generalize w6.setRow R (slV Sp.zero) = w7 at S R1 F1
  go_wp2_with (refine wpl_store S rfl rfl rfl rfl rfl ?_)
  exact bodyPost_ret (results_three Tryz.results67 _ rfl rfl rfl (sl_loads R1 zeros_dig.len)) rfl ⟨rfl, F1⟩
set_option maxHeartbeats 1000000 in
theorem read_yes (s b : ByteArray) (w : World) (hz : b.size ≤ 1099511627776) (hc : ∀ w, Calls Tryz.prog 90 #[.string s] w fun e w' => e = .returned (.tuple #[.string b, .int .i64 0]) ∧ Below w.heap.size w w') (ht : (rsR ⟨b, false⟩).torn = false) (hl : (rsR ⟨b, false⟩).rest = none8) (hcan : Can (rsX ⟨b, false⟩)) :
    Calls Tryz.prog 67 #[.string s] w fun e w' => e = .returned (.tuple #[.agg (slV (rsX ⟨b, false⟩)), .int .i64 ((6 + b.size : Nat) : Int), .int .i64 0]) ∧ Below w.heap.size w w' := by
  obtain ⟨R, e0, st⟩ := ans_start w
  have E0 := Lib.hid e0; have ST := Lib.hid st
  clear e0 st
  have HC := Lib.hid hc
  clear hc
  have ok := rs_okay (r := ⟨b, false⟩) hz
  have hxd := ok.dig.len
  generalize hX : rsX ⟨b, false⟩ = x at *
  generalize hQ : rsR ⟨b, false⟩ = q at *
  have HX := Lib.hid hX; have HQ := Lib.hid hQ
  clear hX hQ
  go_enter Tryz.func67, Tryz.ntmps67
  go_upto_region 1 with (fail)
  rw [← E0.out]
  obtain ⟨w1, hw1⟩ : ∃ w1, w1 = w.alloc (.cells #[.int .i64 0, .string ⟨#[]⟩, .string ⟨#[]⟩, .int .u8 0, .int .u8 0, .int .u8 0, .int .u8 0, .int .u8 0, .int .u8 0, .int .u8 0, .int .u8 0, .int .u8 0, .int .u8 0, .int .u8 0, .int .u8 0, .int .u8 0, .int .u8 0, .int .u8 0, .int .u8 0, .int .u8 0, .int .u8 0, .int .u8 0, .int .u8 0, .int .u8 0, .int .u8 0, .int .u8 0, .int .u8 0, .int .u8 0, .int .u8 0, .int .u8 0, .int .u8 0, .int .u8 0, .int .u8 0, .int .u8 0, .int .u8 0, .string ⟨#[]⟩, .int .i64 0, .int .i64 0] 39) := ⟨_, rfl⟩
  obtain ⟨hr, hb⟩ := ST.out _ hw1
  rw [← hw1]
  clear hw1 ST
  go_wp2_with fail
  refine (HC.out _).mono ?_
  rintro e w2 ⟨rfl, G⟩
  replace hr := hr.old G
  have HRL := Lib.hid hr.lt
  replace hb := hb.trans (G.mono hb.size)
  clear G HC
  obtain ⟨w3, S3, hd, G3, Z3⟩ := keep (P := Tryz.prog) (ty := 141) w2 #[.string ⟨#[]⟩, .bool false] (rdV ⟨b, false⟩) 141 (by kernel_rfl) rfl (by simp [rdV, Value.oneCell'])
  replace hr := hr.old G3
  replace hb := hb.trans (G3.mono hb.size)
  have hRD : R ≠ w2.heap.size := by have := HRL.out; omega
  have hDn : w.heap.size ≤ w2.heap.size := by have := HRL.out; have := E0.out; omega
  clear G3 Z3
  go_upto_region 5 with (refine wpl_store S3 rfl rfl rfl rfl rfl ?_)
  clear S3
  generalize w2.heap.size = D at hd hRD hDn ⊢
  go_wp2_with fail
  refine (rslip_any hd hz).mono ?_
  rintro e w4 ⟨rfl, hd4, T4⟩
  rw [HX.out]
  rw [HQ.out] at hd4
  replace hr := hr.turns T4 hRD
  replace hb := T4.below hb hb.size hDn
  clear hd T4
  obtain ⟨w5, S5, hx, G5, Z5⟩ := x_keep w4 hxd
  have hne5 : R ≠ w4.heap.size := by have := hr.lt; omega
  replace hr := hr.old G5
  replace hd4 := hd4.old G5
  replace hb := hb.trans (G5.mono hb.size)
  clear G5 Z5
  go_upto_region 6 with (refine wpl_store S5 rfl rfl rfl rfl rfl ?_)
  clear S5
  generalize w4.heap.size = X at hx hne5 ⊢
  have c0 : w5.cell? ⟨D, 0, none⟩ = some (.string q.rest) := hd4.cell 0
  have c1 : w5.cell? ⟨D, 1, none⟩ = some (.bool false) := by rw [hd4.cell]; show some (Value.bool q.torn) = _; rw [ht]
  rw [hl] at c0
  have nz : none8.toList.isEmpty = true := by rw [ByteArray.toList_eq]; rfl
  have LX := sl_loads hx hxd
  go_wp2_with (refine wpl_load_in LX rfl rfl rfl ?_)
  refine (good_any x _ ok).mono ?_
  rintro e w6 ⟨rfl, G6⟩
  rw [canB_yes hcan]
  replace hr := hr.old G6
  replace hx := hx.old G6
  replace hb := hb.trans (G6.mono hb.size)
  clear LX c0 c1 hd4 G6
  have LX := sl_loads hx hxd
  have S := sl_stores hr zeros_dig.len hxd
  have R1 := hr.row (slV x)
  have F1 := below_row (B := R) (cs := slV x) hb (by have := E0.out; omega)
  generalize w6.setRow R (slV x) = w7 at S R1 F1
  go_wp2_with (first | refine wpl_load LX rfl rfl rfl ?_ | refine wpl_store S rfl rfl rfl rfl rfl ?_)
  exact bodyPost_ret (results_three Tryz.results67 _ rfl rfl rfl (sl_loads R1 hxd)) rfl ⟨by rw [show ((6 + b.size : Nat) : Int) = 6 + (b.size : Int) by omega]; rfl, F1⟩
theorem read_any (s : ByteArray) (w : World) (hs : s.size ≤ 1099511627776) :
    Calls Tryz.prog 67 #[.string s] w fun e w' => e = .returned (.tuple #[.agg (slV (RD (bl s)).1), .int .i64 (RD (bl s)).2.1, .int .i64 (RD (bl s)).2.2]) ∧ Below w.heap.size w w' := by
  have hl := bl_len s
  by_cases c1 : s.size < 6
  · rw [rd_few (l := bl s) (by omega)]
    exact read_err s w 17 (by decide) fun w => bodyOf_few s w hs c1
  by_cases c2 : len2 (bl s) = 0 ∨ 1024 < len2 (bl s)
  · rw [rd_none (l := bl s) (by omega) c2]
    exact read_err s w 3 (by decide) fun w => bodyOf_none s w hs c1 c2
  by_cases c3 : s.size < 6 + len2 (bl s)
  · rw [rd_short (l := bl s) (by omega) c2 (by omega)]
    exact read_err s w 17 (by decide) fun w => bodyOf_short s w hs c1 c2 c3
  by_cases c4 : ((bl s).drop 2).take 4 = le 4 (mor 0 ((bl s).take 2 ++ bodyOf (bl s)))
  · have hc := fun w => bodyOf_yes s w hs c1 c2 c3 c4
    have hb := body_text s c3
    have hsz : (s.extract 6 (6 + len2 (bl s))).size = len2 (bl s) := by rw [ByteArray.size_extract]; omega
    generalize s.extract 6 (6 + len2 (bl s)) = b at hc hb hsz
    have hz : b.size ≤ 1099511627776 := by omega
    have none : (∀ x, Can x → bodyL x ≠ bodyOf (bl s)) → RD (bl s) = (Sp.zero, 0, 3) := fun h => rd_form (by omega) c2 (by omega) c4 h
    cases ht : (rsR ⟨b, false⟩).torn with
    | true =>
      rw [none fun x hx e => by
        have := rs_app hx (hb.trans e.symm)
        rw [this.2.1] at ht
        cases ht]
      exact read_torn s b w hz hc ht
    | false =>
      by_cases hl' : (rsR ⟨b, false⟩).rest = none8
      · by_cases hcan : Can (rsX ⟨b, false⟩)
        · have e := rs_inv ht hl' hcan
          rw [rd_yes (l := bl s) (by omega) c2 (by omega) c4 hcan (e.symm.trans hb), ← hsz]
          exact read_yes s b w hz hc ht hl' hcan
        · rw [none fun x hx e => by
            have := rs_app hx (hb.trans e.symm)
            rw [this.1] at hcan
            exact hcan hx]
          exact read_form s b w hz hc ht hl' hcan
      · rw [none fun x hx e => hl' (rs_app hx (hb.trans e.symm)).2.2]
        exact read_left s b w hz hc ht hl'
  · rw [rd_sum (l := bl s) (by omega) c2 (by omega) c4]
    exact read_err s w 5 (by decide) fun w => bodyOf_sum s w hs c1 c2 c3 c4
end Go.Proofs.YtdmgobffhpgjlaaGreat.Sl
