/-
  Contract of the reader's slip: what it makes of bytes, as a plain function.
-/
import Derived.Test.YtdmgobffhpgjlaaGreatSlRd
namespace Go.Proofs.YtdmgobffhpgjlaaGreat.Sl
open Go.RowKit Go.PlainAid Go.Proofs.YtdmgobffhpgjlaaGreat.Cr
set_option linter.unusedVariables false
set_option maxRecDepth 20000
set_option linter.unusedSimpArgs false

/-- the digest that a copy of a text over zeros makes -/
def dgV (s : ByteArray) : List Nat := if s.size = 32 then bl s else zeros
theorem dgV_dig (s : ByteArray) : Dig (dgV s) := by
  unfold dgV
  split
  · rename_i h
    exact ⟨by rw [bl_len, h], bl_lt s⟩
  · exact zeros_dig
def rT (k : Int) (r : Rd) : (ByteArray × ByteArray) × Rd := if hT k then ((txV r, txV (txR r)), txR (txR r)) else ((none8, none8), r)
def rD (k : Int) (r : Rd) : List Nat × Rd := if hD k then (dgV (tkV r 32), tkR r 32) else (zeros, r)
def rM (k : Int) (r : Rd) : (ByteArray × Int) × Rd := if hM k then ((txV r, nb (txR r) 8), tkR (txR r) 8) else ((none8, 0), r)
def rA (k : Int) (r : Rd) : Int × Rd := if hA k then (nb r 8, tkR r 8) else (0, r)
def rs1 (r : Rd) : Rd := tkR r 1
def rs2 (r : Rd) : Rd := (rT (nb r 1) (rs1 r)).2
def rs3 (r : Rd) : Rd := (rD (nb r 1) (rs2 r)).2
def rs4 (r : Rd) : Rd := (rM (nb r 1) (rs3 r)).2
def rsR (r : Rd) : Rd := (rA (nb r 1) (rs4 r)).2
def rsX (r : Rd) : Sp := ⟨nb r 1, (rT (nb r 1) (rs1 r)).1.1, (rT (nb r 1) (rs1 r)).1.2, (rD (nb r 1) (rs2 r)).1, (rM (nb r 1) (rs3 r)).1.1, (rM (nb r 1) (rs3 r)).1.2, (rA (nb r 1) (rs4 r)).1⟩
structure RS (w0 w : World) (B R Y L : Nat) (k : Int) (y : Sp) (r : Rd) : Prop where
  rd : At w B 141 (rdV r)
  rs : At w R 39 (slV Sp.zero)
  sy : At w Y 39 (slV y)
  ly : At w L 146 (layV k)
  turn : Turns B w0 w
  ne : R ≠ B ∧ Y ≠ B ∧ L ≠ B ∧ R ≠ Y ∧ L ≠ Y ∧ B ≠ Y ∧ w0.heap.size ≤ Y ∧ w0.heap.size ≤ R ∧ B ≠ R
section
variable {w0 w w' : World} {B R Y L : Nat} {k : Int} {y y' : Sp} {r r' : Rd}
theorem RS.turns (h : RS w0 w B R Y L k y r) (t : Turns B w w') (a : At w' B 141 (rdV r')) : RS w0 w' B R Y L k y r' :=
  ⟨a, h.rs.turns t h.ne.1, h.sy.turns t h.ne.2.1, h.ly.turns t h.ne.2.2.1, h.turn.trans t, h.ne⟩
theorem turns_new {w0 w : World} {B Y : Nat} (h : Turns B w0 w) (hY : w0.heap.size ≤ Y) (j : Nat) (v : Value) : Turns B w0 (w.setCell ⟨Y, j, none⟩ v) :=
  ⟨h.os, h.tape, h.output, by simpa [World.setCell] using h.size, fun k hk hb => (Below.heap_setCell _ _ _ _ (by simp; omega)).trans (h.block k hk hb)⟩
theorem turns_row {w0 w : World} {B Y : Nat} {cs : Array Value} (h : Turns B w0 w) (hY : w0.heap.size ≤ Y) : Turns B w0 (w.setRow Y cs) :=
  ⟨h.os, h.tape, h.output, by simpa using h.size, fun k hk hb => (heap_setRow_other (by omega)).trans (h.block k hk hb)⟩
theorem RS.set (h : RS w0 w B R Y L k y r) (j : Nat) (v : Value) (e : (slV y).setIfInBounds j v = slV y') : RS w0 (w.setCell ⟨Y, j, none⟩ v) B R Y L k y' r :=
  ⟨h.rd.other h.ne.2.2.2.2.2.1 v, h.rs.other h.ne.2.2.2.1 v, by rw [← e]; exact h.sy.set j v, h.ly.other h.ne.2.2.2.2.1 v, turns_new h.turn h.ne.2.2.2.2.2.2.1 j v, h.ne⟩
theorem RS.row (h : RS w0 w B R Y L k y r) : RS w0 (w.setRow Y (slV y')) B R Y L k y' r :=
  ⟨h.rd.rowOther h.ne.2.2.2.2.2.1, h.rs.rowOther h.ne.2.2.2.1, h.sy.row _, h.ly.rowOther h.ne.2.2.2.2.1, turns_row h.turn h.ne.2.2.2.2.2.2.1, h.ne⟩
theorem RS.drew (h : RS w0 w B R Y L k y r) : RS w0 w.drew B R Y L k y r :=
  ⟨h.rd.drew, h.rs.drew, h.sy.drew, h.ly.drew, h.turn.trans (Turns.of_below ((Below.refl _ _).drew)), h.ne⟩
/-- copy(x.Digest[:], s), of a text of 32 bytes, or of none -/
theorem copy_dig (h : At w Y 39 (slV y)) (hy : y.dig = zeros) (s : ByteArray) (hs : s.size = 32 ∨ s.size = 0) (ty : TypeId) :
    ∃ X, (Builtin.copy_ #[87, 9] ty #[.slice (some ⟨Y, 3, none⟩) 32 32, .string s]).run Tryz.prog w = .ok (goInt s.size) X ∧ (X = w.setRow Y (slV { y with dig := dgV s }) ∨ (X = w ∧ dgV s = zeros)) := by
  rcases hs with h2 | h2
  · have hl : y.dig.length = 32 := by rw [hy]; exact zeros_dig.len
    refine ⟨_, Lib.run_copy_row_string (P := Tryz.prog) w 87 9 ty 5 Y 3 32 32 s (slV y) 39 Tryz.underlying87 (by kernel_rfl) h.heap (by omega) (by rw [slV_size hl]; omega), .inl ?_⟩
    have e1 : Lib.byteCells s.data.toList = dV (bl s) := by simp [Lib.byteCells, dV, bl, List.map_map, Function.comp]
    have e2 : dgV s = bl s := by unfold dgV; rw [if_pos h2]
    have e3 := put_part hl (d := bl s) (by rw [bl_len, h2])
    rw [e2, e1]
    congr 1
    rw [← e3]
    simp [dV_len, bl_len]
  · refine ⟨w, ?_, .inr ⟨rfl, by unfold dgV; rw [if_neg (by omega)]⟩⟩
    have := Lib.run_copy_empty_string (P := Tryz.prog) w 87 9 ty 5 (some ⟨Y, 3, none⟩) 32 32 s Tryz.underlying87 (by kernel_rfl) h2
    rw [h2]
    exact this
theorem RS.copied {X : World} (h : RS w0 w B R Y L k y r) (hy : y.dig = zeros) {s : ByteArray} (hX : X = w.setRow Y (slV { y with dig := dgV s }) ∨ (X = w ∧ dgV s = zeros)) : RS w0 X B R Y L k { y with dig := dgV s } r := by
  rcases hX with rfl | ⟨rfl, e⟩
  · exact h.row
  · rw [e, ← hy]
    exact h
end
theorem tk32 (r : Rd) : (tkV r 32).size = 32 ∨ (tkV r 32).size = 0 := by
  unfold tkV
  split
  · right; rfl
  · left; rw [ByteArray.size_extract]; omega
section
variable {P : Program} {ops : Array Oper} {o : Oper} {a : Act} {w w' : World} {Q : Exit → Act → World → Prop} {K : Act → World → Prop} {t u : TypeId} {x y : Operand} {v vy r : Value}
theorem wp_copy (hr : ∀ ty, (Builtin.copy_ #[t, u] ty #[v, vy]).run P w = .ok r w') (hop : o.op = .call { callee := .builtin .copy, args := #[x, y], argTypes := #[t, u] }) (hx : a.eval x = v) (hy : a.eval y = vy) (h : K (a.put o.dst r) w') : o.wp P a w K Q := by
  unfold Oper.wp execOp
  simp only [hop, resolve, invoke, builtin, Sem.run_bind, Sem.run_pure, Result.andThen_ok, List.map_toArray, List.map_cons, List.map_nil, hx, hy, hr]
  exact h
end
theorem copy_ty {w X : World} {v vy r : Value} (h : (Builtin.copy_ #[87, 9] 0 #[v, vy]).run Tryz.prog w = .ok r X) (ty : TypeId) : (Builtin.copy_ #[87, 9] ty #[v, vy]).run Tryz.prog w = .ok r X := h
set_option maxHeartbeats 4000000 in
theorem rslip_bind {w : World} {B : Nat} {r : Rd} (h : At w B 141 (rdV r)) (hk : nb r 1 = 1) (hz : r.rest.size ≤ 1099511627776) :
    Calls Tryz.prog 91 #[.pointer (some ⟨B, 0, none⟩)] w fun e w' => e = .returned (.agg (slV (rsX r))) ∧ At w' B 141 (rdV (rsR r)) ∧ Turns B w w' := by
  have lT : hT 1 = true := rfl
  have lD : hD 1 = true := rfl
  have lM : hM 1 = true := rfl
  have lA : hA 1 = true := rfl
  have LT := Lib.hid lT; have LD := Lib.hid lD; have LM := Lib.hid lM; have LA := Lib.hid lA
  clear lT lD lM lA
  have HK := Lib.hid hk
  clear hk
  obtain ⟨q0, hq0⟩ : ∃ q, q = rs1 r := ⟨_, rfl⟩
  have z0 : q0.rest.size ≤ 1099511627776 := by rw [hq0]; exact Nat.le_trans (tkR_le r 1) hz
  have hBw := h.lt
  have hr := At.new w 39 #[.int .i64 0, .string ⟨#[]⟩, .string ⟨#[]⟩, .int .u8 0, .int .u8 0, .int .u8 0, .int .u8 0, .int .u8 0, .int .u8 0, .int .u8 0, .int .u8 0, .int .u8 0, .int .u8 0, .int .u8 0, .int .u8 0, .int .u8 0, .int .u8 0, .int .u8 0, .int .u8 0, .int .u8 0, .int .u8 0, .int .u8 0, .int .u8 0, .int .u8 0, .int .u8 0, .int .u8 0, .int .u8 0, .int .u8 0, .int .u8 0, .int .u8 0, .int .u8 0, .int .u8 0, .int .u8 0, .int .u8 0, .int .u8 0, .string ⟨#[]⟩, .int .i64 0, .int .i64 0]
  have h1 := h.alloc (.cells #[.int .i64 0, .string ⟨#[]⟩, .string ⟨#[]⟩, .int .u8 0, .int .u8 0, .int .u8 0, .int .u8 0, .int .u8 0, .int .u8 0, .int .u8 0, .int .u8 0, .int .u8 0, .int .u8 0, .int .u8 0, .int .u8 0, .int .u8 0, .int .u8 0, .int .u8 0, .int .u8 0, .int .u8 0, .int .u8 0, .int .u8 0, .int .u8 0, .int .u8 0, .int .u8 0, .int .u8 0, .int .u8 0, .int .u8 0, .int .u8 0, .int .u8 0, .int .u8 0, .int .u8 0, .int .u8 0, .int .u8 0, .int .u8 0, .string ⟨#[]⟩, .int .i64 0, .int .i64 0] 39)
  have F : Below w.heap.size w (w.alloc (.cells #[.int .i64 0, .string ⟨#[]⟩, .string ⟨#[]⟩, .int .u8 0, .int .u8 0, .int .u8 0, .int .u8 0, .int .u8 0, .int .u8 0, .int .u8 0, .int .u8 0, .int .u8 0, .int .u8 0, .int .u8 0, .int .u8 0, .int .u8 0, .int .u8 0, .int .u8 0, .int .u8 0, .int .u8 0, .int .u8 0, .int .u8 0, .int .u8 0, .int .u8 0, .int .u8 0, .int .u8 0, .int .u8 0, .int .u8 0, .int .u8 0, .int .u8 0, .int .u8 0, .int .u8 0, .int .u8 0, .int .u8 0, .int .u8 0, .string ⟨#[]⟩, .int .i64 0, .int .i64 0] 39)) := (Below.refl _ _).alloc (Nat.le_refl _) _
  clear h
  go_enter Tryz.func91, Tryz.ntmps91
  go_upto_region 1 with (fail)
  obtain ⟨R, hR⟩ : ∃ R, R = w.heap.size := ⟨_, rfl⟩
  rw [← hR] at hr ⊢
  generalize w.alloc (.cells #[.int .i64 0, .string ⟨#[]⟩, .string ⟨#[]⟩, .int .u8 0, .int .u8 0, .int .u8 0, .int .u8 0, .int .u8 0, .int .u8 0, .int .u8 0, .int .u8 0, .int .u8 0, .int .u8 0, .int .u8 0, .int .u8 0, .int .u8 0, .int .u8 0, .int .u8 0, .int .u8 0, .int .u8 0, .int .u8 0, .int .u8 0, .int .u8 0, .int .u8 0, .int .u8 0, .int .u8 0, .int .u8 0, .int .u8 0, .int .u8 0, .int .u8 0, .int .u8 0, .int .u8 0, .int .u8 0, .int .u8 0, .int .u8 0, .string ⟨#[]⟩, .int .i64 0, .int .i64 0] 39) = w1 at hr h1 F ⊢
  have HR := Lib.hid hR
  clear hR
  rw [zslip] at hr
  have T1 := Turns.of_below (B := B) F
  clear F
  have hRB : R ≠ B := by have := HR.out; omega
  go_wp2_with fail
  refine (take_any h1 1 hz (by decide)).mono ?_
  rintro e w2 ⟨rfl, A2, K2⟩
  rw [show tkR r 1 = q0 from hq0.symm] at A2
  have HQ0 := Lib.hid hq0
  clear hq0
  replace hr := hr.turns K2 hRB
  have T2 := T1.trans K2
  clear h1 T1 K2
  go_wp2_with fail
  refine (number_any (tkV r 1) _ (by have := tkV_size r 1; omega)).mono ?_
  rintro e vX ⟨rfl, rfl⟩
  rw [show IntKind.i64.wrap (bN (bl (tkV r 1)) : Int) = 1 from HK.out]
  have HRL := Lib.hid hr.lt
  obtain ⟨w3, S3, hy, G3, Z3⟩ := k_keep w2 1
  clear Z3
  replace hr := hr.old G3
  replace A2 := A2.old G3
  have hYn : w.heap.size ≤ w2.heap.size := T2.size
  have T3 := T2.trans (Turns.of_below G3)
  have hRY : R ≠ w2.heap.size := by
    have h5 := HRL.out
    omega
  go_upto_region 2 with (refine wpl_store S3 rfl rfl rfl rfl rfl ?_)
  clear S3 T2 G3
  generalize w2.heap.size = Y at hy hYn hRY ⊢
  have c0 : w3.cell? ⟨Y, 0, none⟩ = some (.int .i64 1) := hy.cell 0
  go_wp2_with fail
  refine (layout_any 1 _).mono ?_
  rintro e w4 ⟨rfl, G4⟩
  replace hr := hr.old G4
  replace A2 := A2.old G4
  replace hy := hy.old G4
  have T4 := T3.trans (Turns.of_below G4)
  clear T3 G4 c0
  obtain ⟨w5, S5, hl, G5, Z5⟩ := keep (P := Tryz.prog) (ty := 146) w4 #[.bool false, .bool false, .bool false, .bool false] (layV 1) 146 (by kernel_rfl) rfl (lay_one 1)
  clear Z5
  have O : RS w w5 B R Y w4.heap.size 1 ⟨1, none8, none8, zeros, none8, 0, 0⟩ q0 := ⟨A2.old G5, hr.old G5, hy.old G5, hl, T4.trans (Turns.of_below G5), by have := HR.out; have := hy.lt; have := A2.lt; omega⟩
  go_upto_region 3 with (refine wpl_store S5 rfl rfl rfl rfl rfl ?_)
  clear S5 G5 hl T4 hr A2 hy hYn hRY
  generalize w4.heap.size = L at O ⊢
  have y0 : w5.cell? ⟨L, 0, none⟩ = some (.bool true) := O.ly.cell 0
  have CC := rtext_any O.rd z0
  obtain ⟨q1, hq⟩ : ∃ q, q = txR q0 := ⟨_, rfl⟩
  obtain ⟨s1, hs⟩ : ∃ s, s = txV q0 := ⟨_, rfl⟩
  have z1 : q1.rest.size ≤ 1099511627776 := by rw [hq]; exact Nat.le_trans (txR_le q0) z0
  rw [← hq, ← hs] at CC
  have HQ1 := Lib.hid hq; have HS1 := Lib.hid hs
  clear hq hs
  go_wp2_with fail
  refine CC.mono ?_
  rintro e w6 ⟨rfl, A', K'⟩
  replace O := O.turns K' A'
  clear A' K' CC y0
  have f1 := O.sy.frozen 1
  have d1 : w6.cell? ⟨Y, 1, none⟩ = some (.string none8) := O.sy.cell 1
  go_upto_region 5 with (fail)
  have O2 := O.set 1 (.string s1) (set1 ⟨1, none8, none8, zeros, none8, 0, 0⟩ _)
  clear O f1 d1
  generalize w6.setCell ⟨Y, 1, none⟩ (.string s1) = w7 at O2 ⊢
  have O : RS w w7 B R Y L 1 ⟨1, s1, none8, zeros, none8, 0, 0⟩ (q1) := O2
  clear O2
  have CC := rtext_any O.rd z1
  obtain ⟨q2, hq⟩ : ∃ q, q = txR q1 := ⟨_, rfl⟩
  obtain ⟨s2, hs⟩ : ∃ s, s = txV q1 := ⟨_, rfl⟩
  have z2 : q2.rest.size ≤ 1099511627776 := by rw [hq]; exact Nat.le_trans (txR_le q1) z1
  rw [← hq, ← hs] at CC
  have HQ2 := Lib.hid hq; have HS2 := Lib.hid hs
  clear hq hs
  go_wp2_with fail
  refine CC.mono ?_
  rintro e w8 ⟨rfl, A', K'⟩
  replace O := O.turns K' A'
  clear A' K' CC 
  have f1 := O.sy.frozen 2
  have d1 : w8.cell? ⟨Y, 2, none⟩ = some (.string none8) := O.sy.cell 2
  go_upto_region 6 with (fail)
  have O2 := O.set 2 (.string s2) (set2 ⟨1, s1, none8, zeros, none8, 0, 0⟩ _)
  clear O f1 d1
  generalize w8.setCell ⟨Y, 2, none⟩ (.string s2) = w9 at O2 ⊢
  have O : RS w w9 B R Y L 1 ⟨1, s1, s2, zeros, none8, 0, 0⟩ (q2) := O2
  clear O2
  have ydl := zeros_dig.len
  have y1 : w9.cell? ⟨L, 1, none⟩ = some (.bool true) := O.ly.cell 1
  go_upto_region 7 with (fail)
  clear y1
  refine wp_region_held (S := fun _ => True) (by kernel_rfl) ?_
  change wpAnyH _ _ _ _ _ _ _ _ w9.drew
  replace O := O.drew
  generalize w9.drew = wd at O ⊢
  have CC := take_any O.rd 32 z2 (by decide)
  have ht32 := tk32 q2
  obtain ⟨q3, hq⟩ : ∃ q, q = tkR q2 32 := ⟨_, rfl⟩
  obtain ⟨s3, hs⟩ : ∃ s, s = tkV q2 32 := ⟨_, rfl⟩
  have z3 : q3.rest.size ≤ 1099511627776 := by rw [hq]; exact Nat.le_trans (tkR_le q2 32) z2
  rw [← hq, ← hs] at CC
  have HQ3 := Lib.hid hq; have HS3 := Lib.hid hs
  clear hq hs
  rw [← HS3.out] at ht32
  have HT32 := Lib.hid ht32
  clear ht32
  refine held_take 0 (.pointer (some ⟨Y, 3, none⟩)) rfl (by kernel_rfl) (by kernel_rfl) (by kernel_rfl) (fun _ _ _ h => h) (Or.inl ⟨by rfl, fun x j => by go_simp⟩) trivial (fun K hK => ?_)
  go_simp
  refine hK _ _ ?_
  clear hK K
  refine held_take 1 (.slice (some ⟨Y, 3, none⟩) 32 32) rfl (by kernel_rfl) (by kernel_rfl) (by kernel_rfl) (fun _ _ _ h => h) (Or.inl ⟨by rfl, fun x j => by go_simp⟩) trivial (fun K hK => ?_)
  go_simp
  refine hK _ _ ?_
  clear hK K
  refine held_take 2 (.pointer (some ⟨B, 0, none⟩)) rfl (by kernel_rfl) (by kernel_rfl) (by kernel_rfl) (fun _ _ _ h => h) (Or.inl ⟨by rfl, fun x j => by go_simp⟩) trivial (fun K hK => ?_)
  go_simp
  refine hK _ _ ?_
  clear hK K
  refine held_one 3 (by kernel_rfl) (fun K hK => wpOp_in rfl rfl ?_)
  go_simp
  refine CC.mono ?_
  rintro e wa ⟨rfl, A', K'⟩
  replace O := O.turns K' A'
  clear A' K' CC
  refine hK _ _ trivial ?_
  clear hK K
  refine held_one 4 (by kernel_rfl) (fun K hK => wpOp_in rfl rfl ?_)
  obtain ⟨X, hX, hX2⟩ := copy_dig O.sy rfl s3 HT32.out 0
  refine wp_copy (fun ty => copy_ty hX ty) rfl rfl rfl ?_
  go_simp
  refine hK _ _ trivial ?_
  clear hK K
  refine wpAnyH_done (by kernel_rfl) ?_ _
  have O2 := O.copied rfl hX2
  clear O hX hX2
  generalize X = w10 at O2 ⊢
  have O : RS w w10 B R Y L 1 ⟨1, s1, s2, dgV s3, none8, 0, 0⟩ (q3) := O2
  clear O2 ydl
  have ydl := (dgV_dig s3).len
  have y2 : w10.cell? ⟨L, 2, none⟩ = some (.bool true) := O.ly.cell 2
  have CC := rtext_any O.rd z3
  obtain ⟨q4, hq⟩ : ∃ q, q = txR q3 := ⟨_, rfl⟩
  obtain ⟨s4, hs⟩ : ∃ s, s = txV q3 := ⟨_, rfl⟩
  have z4 : q4.rest.size ≤ 1099511627776 := by rw [hq]; exact Nat.le_trans (txR_le q3) z3
  rw [← hq, ← hs] at CC
  have HQ4 := Lib.hid hq; have HS4 := Lib.hid hs
  clear hq hs
  go_wp2_with fail
  refine CC.mono ?_
  rintro e w11 ⟨rfl, A', K'⟩
  replace O := O.turns K' A'
  clear A' K' CC y2
  have f1 := O.sy.frozen 35
  have d1 : w11.cell? ⟨Y, 35, none⟩ = some (.string none8) := (O.sy.cell 35).trans (sl35 ydl)
  go_upto_region 10 with (fail)
  have O2 := O.set 35 (.string s4) (set35 (x := ⟨1, s1, s2, dgV s3, none8, 0, 0⟩) ydl _)
  clear O f1 d1
  generalize w11.setCell ⟨Y, 35, none⟩ (.string s4) = w12 at O2 ⊢
  have O : RS w w12 B R Y L 1 ⟨1, s1, s2, dgV s3, s4, 0, 0⟩ (q4) := O2
  clear O2
  have CC := take_any O.rd 8 z4 (by decide)
  have hs8 := tkV_size q4 8
  obtain ⟨b4, hb8⟩ : ∃ b, b = nb q4 8 := ⟨_, rfl⟩
  obtain ⟨q5, hq⟩ : ∃ q, q = tkR q4 8 := ⟨_, rfl⟩
  obtain ⟨s5, hs⟩ : ∃ s, s = tkV q4 8 := ⟨_, rfl⟩
  have z5 : q5.rest.size ≤ 1099511627776 := by rw [hq]; exact Nat.le_trans (tkR_le q4 8) z4
  rw [← hq, ← hs] at CC
  have HQ5 := Lib.hid hq; have HS5 := Lib.hid hs
  clear hq hs
  rw [show nb q4 8 = IntKind.i64.wrap (bN (bl (tkV q4 8)) : Int) from rfl, ← HS5.out] at hb8
  rw [← HS5.out] at hs8
  go_wp2_with fail
  refine CC.mono ?_
  rintro e w13 ⟨rfl, A', K'⟩
  replace O := O.turns K' A'
  clear A' K' CC 
  go_wp2_with fail
  refine (number_any s5 _ (by omega)).mono ?_
  rintro e vX ⟨rfl, rfl⟩
  rw [← hb8]
  have HB5 := Lib.hid hb8
  clear hb8 hs8
  have f1 := O.sy.frozen 36
  have d1 : w13.cell? ⟨Y, 36, none⟩ = some (.int .i64 0) := (O.sy.cell 36).trans (sl36 ydl)
  go_upto_region 11 with (fail)
  have O2 := O.set 36 (.int .i64 b4) (set36 (x := ⟨1, s1, s2, dgV s3, s4, 0, 0⟩) ydl _)
  clear O f1 d1
  generalize w13.setCell ⟨Y, 36, none⟩ (.int .i64 b4) = w14 at O2 ⊢
  have O : RS w w14 B R Y L 1 ⟨1, s1, s2, dgV s3, s4, b4, 0⟩ (q5) := O2
  clear O2
  have y3 : w14.cell? ⟨L, 3, none⟩ = some (.bool true) := O.ly.cell 3
  have CC := take_any O.rd 8 z5 (by decide)
  have hs8 := tkV_size q5 8
  obtain ⟨b5, hb8⟩ : ∃ b, b = nb q5 8 := ⟨_, rfl⟩
  obtain ⟨q6, hq⟩ : ∃ q, q = tkR q5 8 := ⟨_, rfl⟩
  obtain ⟨s6, hs⟩ : ∃ s, s = tkV q5 8 := ⟨_, rfl⟩
  have z6 : q6.rest.size ≤ 1099511627776 := by rw [hq]; exact Nat.le_trans (tkR_le q5 8) z5
  rw [← hq, ← hs] at CC
  have HQ6 := Lib.hid hq; have HS6 := Lib.hid hs
  clear hq hs
  rw [show nb q5 8 = IntKind.i64.wrap (bN (bl (tkV q5 8)) : Int) from rfl, ← HS6.out] at hb8
  rw [← HS6.out] at hs8
  go_wp2_with fail
  refine CC.mono ?_
  rintro e w15 ⟨rfl, A', K'⟩
  replace O := O.turns K' A'
  clear A' K' CC y3
  go_wp2_with fail
  refine (number_any s6 _ (by omega)).mono ?_
  rintro e vX ⟨rfl, rfl⟩
  rw [← hb8]
  have HB6 := Lib.hid hb8
  clear hb8 hs8
  have f1 := O.sy.frozen 37
  have d1 : w15.cell? ⟨Y, 37, none⟩ = some (.int .i64 0) := (O.sy.cell 37).trans (sl37 ydl)
  go_upto_region 13 with (fail)
  have O2 := O.set 37 (.int .i64 b5) (set37 (x := ⟨1, s1, s2, dgV s3, s4, b4, 0⟩) ydl _)
  clear O f1 d1
  generalize w15.setCell ⟨Y, 37, none⟩ (.int .i64 b5) = w16 at O2 ⊢
  have O : RS w w16 B R Y L 1 ⟨1, s1, s2, dgV s3, s4, b4, b5⟩ (q6) := O2
  clear O2
  have FF : rsX r = ⟨1, s1, s2, dgV s3, s4, b4, b5⟩ ∧ rsR r = q6 := by
    unfold rsX rsR rs4 rs3 rs2
    rw [HK.out]
    simp only [rT, rD, rM, rA, LT.out, LD.out, LM.out, LA.out, if_true, Bool.false_eq_true, if_false]
    simp only [HB6.out, HB5.out, HS6.out, HS5.out, HS4.out, HS3.out, HS2.out, HS1.out, HQ6.out, HQ5.out, HQ4.out, HQ3.out, HQ2.out, HQ1.out, HQ0.out]
    first | exact ⟨rfl, rfl⟩ | exact ⟨rfl, trivial⟩ | exact ⟨trivial, rfl⟩ | trivial
  have fin := FF.1.symm
  have fir := FF.2.symm
  clear FF
  rw [fin, fir] at O
  have zd : (rsX r).dig.length = 32 := by rw [← fin]; exact ydl
  clear fin fir ydl
  have D1 := sl_loads O.sy zd
  have D2 := sl_stores O.rs zeros_dig.len zd
  have R1 := O.rs.row (slV (rsX r))
  have E1 := O.rd.rowOther (ds := slV (rsX r)) O.ne.2.2.2.2.2.2.2.2
  have U1 := turns_row (cs := slV (rsX r)) O.turn O.ne.2.2.2.2.2.2.2.1
  generalize w16.setRow R (slV (rsX r)) = w99 at D2 R1 E1 U1
  go_wp2_with (first | refine wpl_load D1 rfl rfl rfl ?_ | refine wpl_store D2 rfl rfl rfl rfl rfl ?_)
  exact bodyPost_ret (results_cell_row Tryz.results91 _ _ R 39 (slV (rsX r)) (0, 0) _ rfl R1.heap Tryz.underlying39 rfl (by rw [slV_size zd]; kernel_rfl)) rfl ⟨rfl, E1, U1⟩
set_option maxHeartbeats 4000000 in
theorem rslip_miss {w : World} {B : Nat} {r : Rd} (h : At w B 141 (rdV r)) (hk : nb r 1 = 2) (hz : r.rest.size ≤ 1099511627776) :
    Calls Tryz.prog 91 #[.pointer (some ⟨B, 0, none⟩)] w fun e w' => e = .returned (.agg (slV (rsX r))) ∧ At w' B 141 (rdV (rsR r)) ∧ Turns B w w' := by
  have lT : hT 2 = true := rfl
  have lD : hD 2 = false := rfl
  have lM : hM 2 = false := rfl
  have lA : hA 2 = true := rfl
  have LT := Lib.hid lT; have LD := Lib.hid lD; have LM := Lib.hid lM; have LA := Lib.hid lA
  clear lT lD lM lA
  have HK := Lib.hid hk
  clear hk
  obtain ⟨q0, hq0⟩ : ∃ q, q = rs1 r := ⟨_, rfl⟩
  have z0 : q0.rest.size ≤ 1099511627776 := by rw [hq0]; exact Nat.le_trans (tkR_le r 1) hz
  have hBw := h.lt
  have hr := At.new w 39 #[.int .i64 0, .string ⟨#[]⟩, .string ⟨#[]⟩, .int .u8 0, .int .u8 0, .int .u8 0, .int .u8 0, .int .u8 0, .int .u8 0, .int .u8 0, .int .u8 0, .int .u8 0, .int .u8 0, .int .u8 0, .int .u8 0, .int .u8 0, .int .u8 0, .int .u8 0, .int .u8 0, .int .u8 0, .int .u8 0, .int .u8 0, .int .u8 0, .int .u8 0, .int .u8 0, .int .u8 0, .int .u8 0, .int .u8 0, .int .u8 0, .int .u8 0, .int .u8 0, .int .u8 0, .int .u8 0, .int .u8 0, .int .u8 0, .string ⟨#[]⟩, .int .i64 0, .int .i64 0]
  have h1 := h.alloc (.cells #[.int .i64 0, .string ⟨#[]⟩, .string ⟨#[]⟩, .int .u8 0, .int .u8 0, .int .u8 0, .int .u8 0, .int .u8 0, .int .u8 0, .int .u8 0, .int .u8 0, .int .u8 0, .int .u8 0, .int .u8 0, .int .u8 0, .int .u8 0, .int .u8 0, .int .u8 0, .int .u8 0, .int .u8 0, .int .u8 0, .int .u8 0, .int .u8 0, .int .u8 0, .int .u8 0, .int .u8 0, .int .u8 0, .int .u8 0, .int .u8 0, .int .u8 0, .int .u8 0, .int .u8 0, .int .u8 0, .int .u8 0, .int .u8 0, .string ⟨#[]⟩, .int .i64 0, .int .i64 0] 39)
  have F : Below w.heap.size w (w.alloc (.cells #[.int .i64 0, .string ⟨#[]⟩, .string ⟨#[]⟩, .int .u8 0, .int .u8 0, .int .u8 0, .int .u8 0, .int .u8 0, .int .u8 0, .int .u8 0, .int .u8 0, .int .u8 0, .int .u8 0, .int .u8 0, .int .u8 0, .int .u8 0, .int .u8 0, .int .u8 0, .int .u8 0, .int .u8 0, .int .u8 0, .int .u8 0, .int .u8 0, .int .u8 0, .int .u8 0, .int .u8 0, .int .u8 0, .int .u8 0, .int .u8 0, .int .u8 0, .int .u8 0, .int .u8 0, .int .u8 0, .int .u8 0, .int .u8 0, .string ⟨#[]⟩, .int .i64 0, .int .i64 0] 39)) := (Below.refl _ _).alloc (Nat.le_refl _) _
  clear h
  go_enter Tryz.func91, Tryz.ntmps91
  go_upto_region 1 with (fail)
  obtain ⟨R, hR⟩ : ∃ R, R = w.heap.size := ⟨_, rfl⟩
  rw [← hR] at hr ⊢
  generalize w.alloc (.cells #[.int .i64 0, .string ⟨#[]⟩, .string ⟨#[]⟩, .int .u8 0, .int .u8 0, .int .u8 0, .int .u8 0, .int .u8 0, .int .u8 0, .int .u8 0, .int .u8 0, .int .u8 0, .int .u8 0, .int .u8 0, .int .u8 0, .int .u8 0, .int .u8 0, .int .u8 0, .int .u8 0, .int .u8 0, .int .u8 0, .int .u8 0, .int .u8 0, .int .u8 0, .int .u8 0, .int .u8 0, .int .u8 0, .int .u8 0, .int .u8 0, .int .u8 0, .int .u8 0, .int .u8 0, .int .u8 0, .int .u8 0, .int .u8 0, .string ⟨#[]⟩, .int .i64 0, .int .i64 0] 39) = w1 at hr h1 F ⊢
  have HR := Lib.hid hR
  clear hR
  rw [zslip] at hr
  have T1 := Turns.of_below (B := B) F
  clear F
  have hRB : R ≠ B := by have := HR.out; omega
  go_wp2_with fail
  refine (take_any h1 1 hz (by decide)).mono ?_
  rintro e w2 ⟨rfl, A2, K2⟩
  rw [show tkR r 1 = q0 from hq0.symm] at A2
  have HQ0 := Lib.hid hq0
  clear hq0
  replace hr := hr.turns K2 hRB
  have T2 := T1.trans K2
  clear h1 T1 K2
  go_wp2_with fail
  refine (number_any (tkV r 1) _ (by have := tkV_size r 1; omega)).mono ?_
  rintro e vX ⟨rfl, rfl⟩
  rw [show IntKind.i64.wrap (bN (bl (tkV r 1)) : Int) = 2 from HK.out]
  have HRL := Lib.hid hr.lt
  obtain ⟨w3, S3, hy, G3, Z3⟩ := k_keep w2 2
  clear Z3
  replace hr := hr.old G3
  replace A2 := A2.old G3
  have hYn : w.heap.size ≤ w2.heap.size := T2.size
  have T3 := T2.trans (Turns.of_below G3)
  have hRY : R ≠ w2.heap.size := by
    have h5 := HRL.out
    omega
  go_upto_region 2 with (refine wpl_store S3 rfl rfl rfl rfl rfl ?_)
  clear S3 T2 G3
  generalize w2.heap.size = Y at hy hYn hRY ⊢
  have c0 : w3.cell? ⟨Y, 0, none⟩ = some (.int .i64 2) := hy.cell 0
  go_wp2_with fail
  refine (layout_any 2 _).mono ?_
  rintro e w4 ⟨rfl, G4⟩
  replace hr := hr.old G4
  replace A2 := A2.old G4
  replace hy := hy.old G4
  have T4 := T3.trans (Turns.of_below G4)
  clear T3 G4 c0
  obtain ⟨w5, S5, hl, G5, Z5⟩ := keep (P := Tryz.prog) (ty := 146) w4 #[.bool false, .bool false, .bool false, .bool false] (layV 2) 146 (by kernel_rfl) rfl (lay_one 2)
  clear Z5
  have O : RS w w5 B R Y w4.heap.size 2 ⟨2, none8, none8, zeros, none8, 0, 0⟩ q0 := ⟨A2.old G5, hr.old G5, hy.old G5, hl, T4.trans (Turns.of_below G5), by have := HR.out; have := hy.lt; have := A2.lt; omega⟩
  go_upto_region 3 with (refine wpl_store S5 rfl rfl rfl rfl rfl ?_)
  clear S5 G5 hl T4 hr A2 hy hYn hRY
  generalize w4.heap.size = L at O ⊢
  have y0 : w5.cell? ⟨L, 0, none⟩ = some (.bool true) := O.ly.cell 0
  have CC := rtext_any O.rd z0
  obtain ⟨q1, hq⟩ : ∃ q, q = txR q0 := ⟨_, rfl⟩
  obtain ⟨s1, hs⟩ : ∃ s, s = txV q0 := ⟨_, rfl⟩
  have z1 : q1.rest.size ≤ 1099511627776 := by rw [hq]; exact Nat.le_trans (txR_le q0) z0
  rw [← hq, ← hs] at CC
  have HQ1 := Lib.hid hq; have HS1 := Lib.hid hs
  clear hq hs
  go_wp2_with fail
  refine CC.mono ?_
  rintro e w6 ⟨rfl, A', K'⟩
  replace O := O.turns K' A'
  clear A' K' CC y0
  have f1 := O.sy.frozen 1
  have d1 : w6.cell? ⟨Y, 1, none⟩ = some (.string none8) := O.sy.cell 1
  go_upto_region 5 with (fail)
  have O2 := O.set 1 (.string s1) (set1 ⟨2, none8, none8, zeros, none8, 0, 0⟩ _)
  clear O f1 d1
  generalize w6.setCell ⟨Y, 1, none⟩ (.string s1) = w7 at O2 ⊢
  have O : RS w w7 B R Y L 2 ⟨2, s1, none8, zeros, none8, 0, 0⟩ (q1) := O2
  clear O2
  have CC := rtext_any O.rd z1
  obtain ⟨q2, hq⟩ : ∃ q, q = txR q1 := ⟨_, rfl⟩
  obtain ⟨s2, hs⟩ : ∃ s, s = txV q1 := ⟨_, rfl⟩
  have z2 : q2.rest.size ≤ 1099511627776 := by rw [hq]; exact Nat.le_trans (txR_le q1) z1
  rw [← hq, ← hs] at CC
  have HQ2 := Lib.hid hq; have HS2 := Lib.hid hs
  clear hq hs
  go_wp2_with fail
  refine CC.mono ?_
  rintro e w8 ⟨rfl, A', K'⟩
  replace O := O.turns K' A'
  clear A' K' CC 
  have f1 := O.sy.frozen 2
  have d1 : w8.cell? ⟨Y, 2, none⟩ = some (.string none8) := O.sy.cell 2
  go_upto_region 6 with (fail)
  have O2 := O.set 2 (.string s2) (set2 ⟨2, s1, none8, zeros, none8, 0, 0⟩ _)
  clear O f1 d1
  generalize w8.setCell ⟨Y, 2, none⟩ (.string s2) = w9 at O2 ⊢
  have O : RS w w9 B R Y L 2 ⟨2, s1, s2, zeros, none8, 0, 0⟩ (q2) := O2
  clear O2
  have ydl := zeros_dig.len
  have y1 : w9.cell? ⟨L, 1, none⟩ = some (.bool false) := O.ly.cell 1
  have y2 : w9.cell? ⟨L, 2, none⟩ = some (.bool false) := O.ly.cell 2
  have y3 : w9.cell? ⟨L, 3, none⟩ = some (.bool true) := O.ly.cell 3
  have CC := take_any O.rd 8 z2 (by decide)
  have hs8 := tkV_size q2 8
  obtain ⟨b2, hb8⟩ : ∃ b, b = nb q2 8 := ⟨_, rfl⟩
  obtain ⟨q3, hq⟩ : ∃ q, q = tkR q2 8 := ⟨_, rfl⟩
  obtain ⟨s3, hs⟩ : ∃ s, s = tkV q2 8 := ⟨_, rfl⟩
  have z3 : q3.rest.size ≤ 1099511627776 := by rw [hq]; exact Nat.le_trans (tkR_le q2 8) z2
  rw [← hq, ← hs] at CC
  have HQ3 := Lib.hid hq; have HS3 := Lib.hid hs
  clear hq hs
  rw [show nb q2 8 = IntKind.i64.wrap (bN (bl (tkV q2 8)) : Int) from rfl, ← HS3.out] at hb8
  rw [← HS3.out] at hs8
  go_wp2_with fail
  refine CC.mono ?_
  rintro e w10 ⟨rfl, A', K'⟩
  replace O := O.turns K' A'
  clear A' K' CC y1 y2 y3
  go_wp2_with fail
  refine (number_any s3 _ (by omega)).mono ?_
  rintro e vX ⟨rfl, rfl⟩
  rw [← hb8]
  have HB3 := Lib.hid hb8
  clear hb8 hs8
  have f1 := O.sy.frozen 37
  have d1 : w10.cell? ⟨Y, 37, none⟩ = some (.int .i64 0) := (O.sy.cell 37).trans (sl37 ydl)
  go_upto_region 13 with (fail)
  have O2 := O.set 37 (.int .i64 b2) (set37 (x := ⟨2, s1, s2, zeros, none8, 0, 0⟩) ydl _)
  clear O f1 d1
  generalize w10.setCell ⟨Y, 37, none⟩ (.int .i64 b2) = w11 at O2 ⊢
  have O : RS w w11 B R Y L 2 ⟨2, s1, s2, zeros, none8, 0, b2⟩ (q3) := O2
  clear O2
  have FF : rsX r = ⟨2, s1, s2, zeros, none8, 0, b2⟩ ∧ rsR r = q3 := by
    unfold rsX rsR rs4 rs3 rs2
    rw [HK.out]
    simp only [rT, rD, rM, rA, LT.out, LD.out, LM.out, LA.out, if_true, Bool.false_eq_true, if_false]
    simp only [HB3.out, HS3.out, HS2.out, HS1.out, HQ3.out, HQ2.out, HQ1.out, HQ0.out]
    first | exact ⟨rfl, rfl⟩ | exact ⟨rfl, trivial⟩ | exact ⟨trivial, rfl⟩ | trivial
  have fin := FF.1.symm
  have fir := FF.2.symm
  clear FF
  rw [fin, fir] at O
  have zd : (rsX r).dig.length = 32 := by rw [← fin]; exact ydl
  clear fin fir ydl
  have D1 := sl_loads O.sy zd
  have D2 := sl_stores O.rs zeros_dig.len zd
  have R1 := O.rs.row (slV (rsX r))
  have E1 := O.rd.rowOther (ds := slV (rsX r)) O.ne.2.2.2.2.2.2.2.2
  have U1 := turns_row (cs := slV (rsX r)) O.turn O.ne.2.2.2.2.2.2.2.1
  generalize w11.setRow R (slV (rsX r)) = w99 at D2 R1 E1 U1
  go_wp2_with (first | refine wpl_load D1 rfl rfl rfl ?_ | refine wpl_store D2 rfl rfl rfl rfl rfl ?_)
  exact bodyPost_ret (results_cell_row Tryz.results91 _ _ R 39 (slV (rsX r)) (0, 0) _ rfl R1.heap Tryz.underlying39 rfl (by rw [slV_size zd]; kernel_rfl)) rfl ⟨rfl, E1, U1⟩
set_option maxHeartbeats 4000000 in
theorem rslip_drop {w : World} {B : Nat} {r : Rd} (h : At w B 141 (rdV r)) (hk : nb r 1 = 3) (hz : r.rest.size ≤ 1099511627776) :
    Calls Tryz.prog 91 #[.pointer (some ⟨B, 0, none⟩)] w fun e w' => e = .returned (.agg (slV (rsX r))) ∧ At w' B 141 (rdV (rsR r)) ∧ Turns B w w' := by
  have lT : hT 3 = true := rfl
  have lD : hD 3 = false := rfl
  have lM : hM 3 = false := rfl
  have lA : hA 3 = false := rfl
  have LT := Lib.hid lT; have LD := Lib.hid lD; have LM := Lib.hid lM; have LA := Lib.hid lA
  clear lT lD lM lA
  have HK := Lib.hid hk
  clear hk
  obtain ⟨q0, hq0⟩ : ∃ q, q = rs1 r := ⟨_, rfl⟩
  have z0 : q0.rest.size ≤ 1099511627776 := by rw [hq0]; exact Nat.le_trans (tkR_le r 1) hz
  have hBw := h.lt
  have hr := At.new w 39 #[.int .i64 0, .string ⟨#[]⟩, .string ⟨#[]⟩, .int .u8 0, .int .u8 0, .int .u8 0, .int .u8 0, .int .u8 0, .int .u8 0, .int .u8 0, .int .u8 0, .int .u8 0, .int .u8 0, .int .u8 0, .int .u8 0, .int .u8 0, .int .u8 0, .int .u8 0, .int .u8 0, .int .u8 0, .int .u8 0, .int .u8 0, .int .u8 0, .int .u8 0, .int .u8 0, .int .u8 0, .int .u8 0, .int .u8 0, .int .u8 0, .int .u8 0, .int .u8 0, .int .u8 0, .int .u8 0, .int .u8 0, .int .u8 0, .string ⟨#[]⟩, .int .i64 0, .int .i64 0]
  have h1 := h.alloc (.cells #[.int .i64 0, .string ⟨#[]⟩, .string ⟨#[]⟩, .int .u8 0, .int .u8 0, .int .u8 0, .int .u8 0, .int .u8 0, .int .u8 0, .int .u8 0, .int .u8 0, .int .u8 0, .int .u8 0, .int .u8 0, .int .u8 0, .int .u8 0, .int .u8 0, .int .u8 0, .int .u8 0, .int .u8 0, .int .u8 0, .int .u8 0, .int .u8 0, .int .u8 0, .int .u8 0, .int .u8 0, .int .u8 0, .int .u8 0, .int .u8 0, .int .u8 0, .int .u8 0, .int .u8 0, .int .u8 0, .int .u8 0, .int .u8 0, .string ⟨#[]⟩, .int .i64 0, .int .i64 0] 39)
  have F : Below w.heap.size w (w.alloc (.cells #[.int .i64 0, .string ⟨#[]⟩, .string ⟨#[]⟩, .int .u8 0, .int .u8 0, .int .u8 0, .int .u8 0, .int .u8 0, .int .u8 0, .int .u8 0, .int .u8 0, .int .u8 0, .int .u8 0, .int .u8 0, .int .u8 0, .int .u8 0, .int .u8 0, .int .u8 0, .int .u8 0, .int .u8 0, .int .u8 0, .int .u8 0, .int .u8 0, .int .u8 0, .int .u8 0, .int .u8 0, .int .u8 0, .int .u8 0, .int .u8 0, .int .u8 0, .int .u8 0, .int .u8 0, .int .u8 0, .int .u8 0, .int .u8 0, .string ⟨#[]⟩, .int .i64 0, .int .i64 0] 39)) := (Below.refl _ _).alloc (Nat.le_refl _) _
  clear h
  go_enter Tryz.func91, Tryz.ntmps91
  go_upto_region 1 with (fail)
  obtain ⟨R, hR⟩ : ∃ R, R = w.heap.size := ⟨_, rfl⟩
  rw [← hR] at hr ⊢
  generalize w.alloc (.cells #[.int .i64 0, .string ⟨#[]⟩, .string ⟨#[]⟩, .int .u8 0, .int .u8 0, .int .u8 0, .int .u8 0, .int .u8 0, .int .u8 0, .int .u8 0, .int .u8 0, .int .u8 0, .int .u8 0, .int .u8 0, .int .u8 0, .int .u8 0, .int .u8 0, .int .u8 0, .int .u8 0, .int .u8 0, .int .u8 0, .int .u8 0, .int .u8 0, .int .u8 0, .int .u8 0, .int .u8 0, .int .u8 0, .int .u8 0, .int .u8 0, .int .u8 0, .int .u8 0, .int .u8 0, .int .u8 0, .int .u8 0, .int .u8 0, .string ⟨#[]⟩, .int .i64 0, .int .i64 0] 39) = w1 at hr h1 F ⊢
  have HR := Lib.hid hR
  clear hR
  rw [zslip] at hr
  have T1 := Turns.of_below (B := B) F
  clear F
  have hRB : R ≠ B := by have := HR.out; omega
  go_wp2_with fail
  refine (take_any h1 1 hz (by decide)).mono ?_
  rintro e w2 ⟨rfl, A2, K2⟩
  rw [show tkR r 1 = q0 from hq0.symm] at A2
  have HQ0 := Lib.hid hq0
  clear hq0
  replace hr := hr.turns K2 hRB
  have T2 := T1.trans K2
  clear h1 T1 K2
  go_wp2_with fail
  refine (number_any (tkV r 1) _ (by have := tkV_size r 1; omega)).mono ?_
  rintro e vX ⟨rfl, rfl⟩
  rw [show IntKind.i64.wrap (bN (bl (tkV r 1)) : Int) = 3 from HK.out]
  have HRL := Lib.hid hr.lt
  obtain ⟨w3, S3, hy, G3, Z3⟩ := k_keep w2 3
  clear Z3
  replace hr := hr.old G3
  replace A2 := A2.old G3
  have hYn : w.heap.size ≤ w2.heap.size := T2.size
  have T3 := T2.trans (Turns.of_below G3)
  have hRY : R ≠ w2.heap.size := by
    have h5 := HRL.out
    omega
  go_upto_region 2 with (refine wpl_store S3 rfl rfl rfl rfl rfl ?_)
  clear S3 T2 G3
  generalize w2.heap.size = Y at hy hYn hRY ⊢
  have c0 : w3.cell? ⟨Y, 0, none⟩ = some (.int .i64 3) := hy.cell 0
  go_wp2_with fail
  refine (layout_any 3 _).mono ?_
  rintro e w4 ⟨rfl, G4⟩
  replace hr := hr.old G4
  replace A2 := A2.old G4
  replace hy := hy.old G4
  have T4 := T3.trans (Turns.of_below G4)
  clear T3 G4 c0
  obtain ⟨w5, S5, hl, G5, Z5⟩ := keep (P := Tryz.prog) (ty := 146) w4 #[.bool false, .bool false, .bool false, .bool false] (layV 3) 146 (by kernel_rfl) rfl (lay_one 3)
  clear Z5
  have O : RS w w5 B R Y w4.heap.size 3 ⟨3, none8, none8, zeros, none8, 0, 0⟩ q0 := ⟨A2.old G5, hr.old G5, hy.old G5, hl, T4.trans (Turns.of_below G5), by have := HR.out; have := hy.lt; have := A2.lt; omega⟩
  go_upto_region 3 with (refine wpl_store S5 rfl rfl rfl rfl rfl ?_)
  clear S5 G5 hl T4 hr A2 hy hYn hRY
  generalize w4.heap.size = L at O ⊢
  have y0 : w5.cell? ⟨L, 0, none⟩ = some (.bool true) := O.ly.cell 0
  have CC := rtext_any O.rd z0
  obtain ⟨q1, hq⟩ : ∃ q, q = txR q0 := ⟨_, rfl⟩
  obtain ⟨s1, hs⟩ : ∃ s, s = txV q0 := ⟨_, rfl⟩
  have z1 : q1.rest.size ≤ 1099511627776 := by rw [hq]; exact Nat.le_trans (txR_le q0) z0
  rw [← hq, ← hs] at CC
  have HQ1 := Lib.hid hq; have HS1 := Lib.hid hs
  clear hq hs
  go_wp2_with fail
  refine CC.mono ?_
  rintro e w6 ⟨rfl, A', K'⟩
  replace O := O.turns K' A'
  clear A' K' CC y0
  have f1 := O.sy.frozen 1
  have d1 : w6.cell? ⟨Y, 1, none⟩ = some (.string none8) := O.sy.cell 1
  go_upto_region 5 with (fail)
  have O2 := O.set 1 (.string s1) (set1 ⟨3, none8, none8, zeros, none8, 0, 0⟩ _)
  clear O f1 d1
  generalize w6.setCell ⟨Y, 1, none⟩ (.string s1) = w7 at O2 ⊢
  have O : RS w w7 B R Y L 3 ⟨3, s1, none8, zeros, none8, 0, 0⟩ (q1) := O2
  clear O2
  have CC := rtext_any O.rd z1
  obtain ⟨q2, hq⟩ : ∃ q, q = txR q1 := ⟨_, rfl⟩
  obtain ⟨s2, hs⟩ : ∃ s, s = txV q1 := ⟨_, rfl⟩
  have z2 : q2.rest.size ≤ 1099511627776 := by rw [hq]; exact Nat.le_trans (txR_le q1) z1
  rw [← hq, ← hs] at CC
  have HQ2 := Lib.hid hq; have HS2 := Lib.hid hs
  clear hq hs
  go_wp2_with fail
  refine CC.mono ?_
  rintro e w8 ⟨rfl, A', K'⟩
  replace O := O.turns K' A'
  clear A' K' CC 
  have f1 := O.sy.frozen 2
  have d1 : w8.cell? ⟨Y, 2, none⟩ = some (.string none8) := O.sy.cell 2
  go_upto_region 6 with (fail)
  have O2 := O.set 2 (.string s2) (set2 ⟨3, s1, none8, zeros, none8, 0, 0⟩ _)
  clear O f1 d1
  generalize w8.setCell ⟨Y, 2, none⟩ (.string s2) = w9 at O2 ⊢
  have O : RS w w9 B R Y L 3 ⟨3, s1, s2, zeros, none8, 0, 0⟩ (q2) := O2
  clear O2
  have ydl := zeros_dig.len
  have y1 : w9.cell? ⟨L, 1, none⟩ = some (.bool false) := O.ly.cell 1
  have y2 : w9.cell? ⟨L, 2, none⟩ = some (.bool false) := O.ly.cell 2
  have y3 : w9.cell? ⟨L, 3, none⟩ = some (.bool false) := O.ly.cell 3
  have FF : rsX r = ⟨3, s1, s2, zeros, none8, 0, 0⟩ ∧ rsR r = q2 := by
    unfold rsX rsR rs4 rs3 rs2
    rw [HK.out]
    simp only [rT, rD, rM, rA, LT.out, LD.out, LM.out, LA.out, if_true, Bool.false_eq_true, if_false]
    simp only [HS2.out, HS1.out, HQ2.out, HQ1.out, HQ0.out]
    first | exact ⟨rfl, rfl⟩ | exact ⟨rfl, trivial⟩ | exact ⟨trivial, rfl⟩ | trivial
  have fin := FF.1.symm
  have fir := FF.2.symm
  clear FF
  rw [fin, fir] at O
  have zd : (rsX r).dig.length = 32 := by rw [← fin]; exact ydl
  clear fin fir ydl
  have D1 := sl_loads O.sy zd
  have D2 := sl_stores O.rs zeros_dig.len zd
  have R1 := O.rs.row (slV (rsX r))
  have E1 := O.rd.rowOther (ds := slV (rsX r)) O.ne.2.2.2.2.2.2.2.2
  have U1 := turns_row (cs := slV (rsX r)) O.turn O.ne.2.2.2.2.2.2.2.1
  generalize w9.setRow R (slV (rsX r)) = w99 at D2 R1 E1 U1
  go_wp2_with (first | refine wpl_load D1 rfl rfl rfl ?_ | refine wpl_store D2 rfl rfl rfl rfl rfl ?_)
  exact bodyPost_ret (results_cell_row Tryz.results91 _ _ R 39 (slV (rsX r)) (0, 0) _ rfl R1.heap Tryz.underlying39 rfl (by rw [slV_size zd]; kernel_rfl)) rfl ⟨rfl, E1, U1⟩
set_option maxHeartbeats 4000000 in
theorem rslip_blob {w : World} {B : Nat} {r : Rd} (h : At w B 141 (rdV r)) (hk : nb r 1 = 4) (hz : r.rest.size ≤ 1099511627776) :
    Calls Tryz.prog 91 #[.pointer (some ⟨B, 0, none⟩)] w fun e w' => e = .returned (.agg (slV (rsX r))) ∧ At w' B 141 (rdV (rsR r)) ∧ Turns B w w' := by
  have lT : hT 4 = false := rfl
  have lD : hD 4 = true := rfl
  have lM : hM 4 = true := rfl
  have lA : hA 4 = false := rfl
  have LT := Lib.hid lT; have LD := Lib.hid lD; have LM := Lib.hid lM; have LA := Lib.hid lA
  clear lT lD lM lA
  have HK := Lib.hid hk
  clear hk
  obtain ⟨q0, hq0⟩ : ∃ q, q = rs1 r := ⟨_, rfl⟩
  have z0 : q0.rest.size ≤ 1099511627776 := by rw [hq0]; exact Nat.le_trans (tkR_le r 1) hz
  have hBw := h.lt
  have hr := At.new w 39 #[.int .i64 0, .string ⟨#[]⟩, .string ⟨#[]⟩, .int .u8 0, .int .u8 0, .int .u8 0, .int .u8 0, .int .u8 0, .int .u8 0, .int .u8 0, .int .u8 0, .int .u8 0, .int .u8 0, .int .u8 0, .int .u8 0, .int .u8 0, .int .u8 0, .int .u8 0, .int .u8 0, .int .u8 0, .int .u8 0, .int .u8 0, .int .u8 0, .int .u8 0, .int .u8 0, .int .u8 0, .int .u8 0, .int .u8 0, .int .u8 0, .int .u8 0, .int .u8 0, .int .u8 0, .int .u8 0, .int .u8 0, .int .u8 0, .string ⟨#[]⟩, .int .i64 0, .int .i64 0]
  have h1 := h.alloc (.cells #[.int .i64 0, .string ⟨#[]⟩, .string ⟨#[]⟩, .int .u8 0, .int .u8 0, .int .u8 0, .int .u8 0, .int .u8 0, .int .u8 0, .int .u8 0, .int .u8 0, .int .u8 0, .int .u8 0, .int .u8 0, .int .u8 0, .int .u8 0, .int .u8 0, .int .u8 0, .int .u8 0, .int .u8 0, .int .u8 0, .int .u8 0, .int .u8 0, .int .u8 0, .int .u8 0, .int .u8 0, .int .u8 0, .int .u8 0, .int .u8 0, .int .u8 0, .int .u8 0, .int .u8 0, .int .u8 0, .int .u8 0, .int .u8 0, .string ⟨#[]⟩, .int .i64 0, .int .i64 0] 39)
  have F : Below w.heap.size w (w.alloc (.cells #[.int .i64 0, .string ⟨#[]⟩, .string ⟨#[]⟩, .int .u8 0, .int .u8 0, .int .u8 0, .int .u8 0, .int .u8 0, .int .u8 0, .int .u8 0, .int .u8 0, .int .u8 0, .int .u8 0, .int .u8 0, .int .u8 0, .int .u8 0, .int .u8 0, .int .u8 0, .int .u8 0, .int .u8 0, .int .u8 0, .int .u8 0, .int .u8 0, .int .u8 0, .int .u8 0, .int .u8 0, .int .u8 0, .int .u8 0, .int .u8 0, .int .u8 0, .int .u8 0, .int .u8 0, .int .u8 0, .int .u8 0, .int .u8 0, .string ⟨#[]⟩, .int .i64 0, .int .i64 0] 39)) := (Below.refl _ _).alloc (Nat.le_refl _) _
  clear h
  go_enter Tryz.func91, Tryz.ntmps91
  go_upto_region 1 with (fail)
  obtain ⟨R, hR⟩ : ∃ R, R = w.heap.size := ⟨_, rfl⟩
  rw [← hR] at hr ⊢
  generalize w.alloc (.cells #[.int .i64 0, .string ⟨#[]⟩, .string ⟨#[]⟩, .int .u8 0, .int .u8 0, .int .u8 0, .int .u8 0, .int .u8 0, .int .u8 0, .int .u8 0, .int .u8 0, .int .u8 0, .int .u8 0, .int .u8 0, .int .u8 0, .int .u8 0, .int .u8 0, .int .u8 0, .int .u8 0, .int .u8 0, .int .u8 0, .int .u8 0, .int .u8 0, .int .u8 0, .int .u8 0, .int .u8 0, .int .u8 0, .int .u8 0, .int .u8 0, .int .u8 0, .int .u8 0, .int .u8 0, .int .u8 0, .int .u8 0, .int .u8 0, .string ⟨#[]⟩, .int .i64 0, .int .i64 0] 39) = w1 at hr h1 F ⊢
  have HR := Lib.hid hR
  clear hR
  rw [zslip] at hr
  have T1 := Turns.of_below (B := B) F
  clear F
  have hRB : R ≠ B := by have := HR.out; omega
  go_wp2_with fail
  refine (take_any h1 1 hz (by decide)).mono ?_
  rintro e w2 ⟨rfl, A2, K2⟩
  rw [show tkR r 1 = q0 from hq0.symm] at A2
  have HQ0 := Lib.hid hq0
  clear hq0
  replace hr := hr.turns K2 hRB
  have T2 := T1.trans K2
  clear h1 T1 K2
  go_wp2_with fail
  refine (number_any (tkV r 1) _ (by have := tkV_size r 1; omega)).mono ?_
  rintro e vX ⟨rfl, rfl⟩
  rw [show IntKind.i64.wrap (bN (bl (tkV r 1)) : Int) = 4 from HK.out]
  have HRL := Lib.hid hr.lt
  obtain ⟨w3, S3, hy, G3, Z3⟩ := k_keep w2 4
  clear Z3
  replace hr := hr.old G3
  replace A2 := A2.old G3
  have hYn : w.heap.size ≤ w2.heap.size := T2.size
  have T3 := T2.trans (Turns.of_below G3)
  have hRY : R ≠ w2.heap.size := by
    have h5 := HRL.out
    omega
  go_upto_region 2 with (refine wpl_store S3 rfl rfl rfl rfl rfl ?_)
  clear S3 T2 G3
  generalize w2.heap.size = Y at hy hYn hRY ⊢
  have c0 : w3.cell? ⟨Y, 0, none⟩ = some (.int .i64 4) := hy.cell 0
  go_wp2_with fail
  refine (layout_any 4 _).mono ?_
  rintro e w4 ⟨rfl, G4⟩
  replace hr := hr.old G4
  replace A2 := A2.old G4
  replace hy := hy.old G4
  have T4 := T3.trans (Turns.of_below G4)
  clear T3 G4 c0
  obtain ⟨w5, S5, hl, G5, Z5⟩ := keep (P := Tryz.prog) (ty := 146) w4 #[.bool false, .bool false, .bool false, .bool false] (layV 4) 146 (by kernel_rfl) rfl (lay_one 4)
  clear Z5
  have O : RS w w5 B R Y w4.heap.size 4 ⟨4, none8, none8, zeros, none8, 0, 0⟩ q0 := ⟨A2.old G5, hr.old G5, hy.old G5, hl, T4.trans (Turns.of_below G5), by have := HR.out; have := hy.lt; have := A2.lt; omega⟩
  go_upto_region 3 with (refine wpl_store S5 rfl rfl rfl rfl rfl ?_)
  clear S5 G5 hl T4 hr A2 hy hYn hRY
  generalize w4.heap.size = L at O ⊢
  have ydl := zeros_dig.len
  have y0 : w5.cell? ⟨L, 0, none⟩ = some (.bool false) := O.ly.cell 0
  have y1 : w5.cell? ⟨L, 1, none⟩ = some (.bool true) := O.ly.cell 1
  go_upto_region 7 with (fail)
  clear y0 y1
  refine wp_region_held (S := fun _ => True) (by kernel_rfl) ?_
  change wpAnyH _ _ _ _ _ _ _ _ w5.drew
  replace O := O.drew
  generalize w5.drew = wd at O ⊢
  have CC := take_any O.rd 32 z0 (by decide)
  have ht32 := tk32 q0
  obtain ⟨q1, hq⟩ : ∃ q, q = tkR q0 32 := ⟨_, rfl⟩
  obtain ⟨s1, hs⟩ : ∃ s, s = tkV q0 32 := ⟨_, rfl⟩
  have z1 : q1.rest.size ≤ 1099511627776 := by rw [hq]; exact Nat.le_trans (tkR_le q0 32) z0
  rw [← hq, ← hs] at CC
  have HQ1 := Lib.hid hq; have HS1 := Lib.hid hs
  clear hq hs
  rw [← HS1.out] at ht32
  have HT32 := Lib.hid ht32
  clear ht32
  refine held_take 0 (.pointer (some ⟨Y, 3, none⟩)) rfl (by kernel_rfl) (by kernel_rfl) (by kernel_rfl) (fun _ _ _ h => h) (Or.inl ⟨by rfl, fun x j => by go_simp⟩) trivial (fun K hK => ?_)
  go_simp
  refine hK _ _ ?_
  clear hK K
  refine held_take 1 (.slice (some ⟨Y, 3, none⟩) 32 32) rfl (by kernel_rfl) (by kernel_rfl) (by kernel_rfl) (fun _ _ _ h => h) (Or.inl ⟨by rfl, fun x j => by go_simp⟩) trivial (fun K hK => ?_)
  go_simp
  refine hK _ _ ?_
  clear hK K
  refine held_take 2 (.pointer (some ⟨B, 0, none⟩)) rfl (by kernel_rfl) (by kernel_rfl) (by kernel_rfl) (fun _ _ _ h => h) (Or.inl ⟨by rfl, fun x j => by go_simp⟩) trivial (fun K hK => ?_)
  go_simp
  refine hK _ _ ?_
  clear hK K
  refine held_one 3 (by kernel_rfl) (fun K hK => wpOp_in rfl rfl ?_)
  go_simp
  refine CC.mono ?_
  rintro e wa ⟨rfl, A', K'⟩
  replace O := O.turns K' A'
  clear A' K' CC
  refine hK _ _ trivial ?_
  clear hK K
  refine held_one 4 (by kernel_rfl) (fun K hK => wpOp_in rfl rfl ?_)
  obtain ⟨X, hX, hX2⟩ := copy_dig O.sy rfl s1 HT32.out 0
  refine wp_copy (fun ty => copy_ty hX ty) rfl rfl rfl ?_
  go_simp
  refine hK _ _ trivial ?_
  clear hK K
  refine wpAnyH_done (by kernel_rfl) ?_ _
  have O2 := O.copied rfl hX2
  clear O hX hX2
  generalize X = w6 at O2 ⊢
  have O : RS w w6 B R Y L 4 ⟨4, none8, none8, dgV s1, none8, 0, 0⟩ (q1) := O2
  clear O2 ydl
  have ydl := (dgV_dig s1).len
  have y2 : w6.cell? ⟨L, 2, none⟩ = some (.bool true) := O.ly.cell 2
  have CC := rtext_any O.rd z1
  obtain ⟨q2, hq⟩ : ∃ q, q = txR q1 := ⟨_, rfl⟩
  obtain ⟨s2, hs⟩ : ∃ s, s = txV q1 := ⟨_, rfl⟩
  have z2 : q2.rest.size ≤ 1099511627776 := by rw [hq]; exact Nat.le_trans (txR_le q1) z1
  rw [← hq, ← hs] at CC
  have HQ2 := Lib.hid hq; have HS2 := Lib.hid hs
  clear hq hs
  go_wp2_with fail
  refine CC.mono ?_
  rintro e w7 ⟨rfl, A', K'⟩
  replace O := O.turns K' A'
  clear A' K' CC y2
  have f1 := O.sy.frozen 35
  have d1 : w7.cell? ⟨Y, 35, none⟩ = some (.string none8) := (O.sy.cell 35).trans (sl35 ydl)
  go_upto_region 10 with (fail)
  have O2 := O.set 35 (.string s2) (set35 (x := ⟨4, none8, none8, dgV s1, none8, 0, 0⟩) ydl _)
  clear O f1 d1
  generalize w7.setCell ⟨Y, 35, none⟩ (.string s2) = w8 at O2 ⊢
  have O : RS w w8 B R Y L 4 ⟨4, none8, none8, dgV s1, s2, 0, 0⟩ (q2) := O2
  clear O2
  have CC := take_any O.rd 8 z2 (by decide)
  have hs8 := tkV_size q2 8
  obtain ⟨b2, hb8⟩ : ∃ b, b = nb q2 8 := ⟨_, rfl⟩
  obtain ⟨q3, hq⟩ : ∃ q, q = tkR q2 8 := ⟨_, rfl⟩
  obtain ⟨s3, hs⟩ : ∃ s, s = tkV q2 8 := ⟨_, rfl⟩
  have z3 : q3.rest.size ≤ 1099511627776 := by rw [hq]; exact Nat.le_trans (tkR_le q2 8) z2
  rw [← hq, ← hs] at CC
  have HQ3 := Lib.hid hq; have HS3 := Lib.hid hs
  clear hq hs
  rw [show nb q2 8 = IntKind.i64.wrap (bN (bl (tkV q2 8)) : Int) from rfl, ← HS3.out] at hb8
  rw [← HS3.out] at hs8
  go_wp2_with fail
  refine CC.mono ?_
  rintro e w9 ⟨rfl, A', K'⟩
  replace O := O.turns K' A'
  clear A' K' CC 
  go_wp2_with fail
  refine (number_any s3 _ (by omega)).mono ?_
  rintro e vX ⟨rfl, rfl⟩
  rw [← hb8]
  have HB3 := Lib.hid hb8
  clear hb8 hs8
  have f1 := O.sy.frozen 36
  have d1 : w9.cell? ⟨Y, 36, none⟩ = some (.int .i64 0) := (O.sy.cell 36).trans (sl36 ydl)
  go_upto_region 11 with (fail)
  have O2 := O.set 36 (.int .i64 b2) (set36 (x := ⟨4, none8, none8, dgV s1, s2, 0, 0⟩) ydl _)
  clear O f1 d1
  generalize w9.setCell ⟨Y, 36, none⟩ (.int .i64 b2) = w10 at O2 ⊢
  have O : RS w w10 B R Y L 4 ⟨4, none8, none8, dgV s1, s2, b2, 0⟩ (q3) := O2
  clear O2
  have y3 : w10.cell? ⟨L, 3, none⟩ = some (.bool false) := O.ly.cell 3
  have FF : rsX r = ⟨4, none8, none8, dgV s1, s2, b2, 0⟩ ∧ rsR r = q3 := by
    unfold rsX rsR rs4 rs3 rs2
    rw [HK.out]
    simp only [rT, rD, rM, rA, LT.out, LD.out, LM.out, LA.out, if_true, Bool.false_eq_true, if_false]
    simp only [HB3.out, HS3.out, HS2.out, HS1.out, HQ3.out, HQ2.out, HQ1.out, HQ0.out]
    first | exact ⟨rfl, rfl⟩ | exact ⟨rfl, trivial⟩ | exact ⟨trivial, rfl⟩ | trivial
  have fin := FF.1.symm
  have fir := FF.2.symm
  clear FF
  rw [fin, fir] at O
  have zd : (rsX r).dig.length = 32 := by rw [← fin]; exact ydl
  clear fin fir ydl
  have D1 := sl_loads O.sy zd
  have D2 := sl_stores O.rs zeros_dig.len zd
  have R1 := O.rs.row (slV (rsX r))
  have E1 := O.rd.rowOther (ds := slV (rsX r)) O.ne.2.2.2.2.2.2.2.2
  have U1 := turns_row (cs := slV (rsX r)) O.turn O.ne.2.2.2.2.2.2.2.1
  generalize w10.setRow R (slV (rsX r)) = w99 at D2 R1 E1 U1
  go_wp2_with (first | refine wpl_load D1 rfl rfl rfl ?_ | refine wpl_store D2 rfl rfl rfl rfl rfl ?_)
  exact bodyPost_ret (results_cell_row Tryz.results91 _ _ R 39 (slV (rsX r)) (0, 0) _ rfl R1.heap Tryz.underlying39 rfl (by rw [slV_size zd]; kernel_rfl)) rfl ⟨rfl, E1, U1⟩
set_option maxHeartbeats 4000000 in
theorem rslip_gone {w : World} {B : Nat} {r : Rd} (h : At w B 141 (rdV r)) (hk : nb r 1 = 5) (hz : r.rest.size ≤ 1099511627776) :
    Calls Tryz.prog 91 #[.pointer (some ⟨B, 0, none⟩)] w fun e w' => e = .returned (.agg (slV (rsX r))) ∧ At w' B 141 (rdV (rsR r)) ∧ Turns B w w' := by
  have lT : hT 5 = false := rfl
  have lD : hD 5 = true := rfl
  have lM : hM 5 = false := rfl
  have lA : hA 5 = false := rfl
  have LT := Lib.hid lT; have LD := Lib.hid lD; have LM := Lib.hid lM; have LA := Lib.hid lA
  clear lT lD lM lA
  have HK := Lib.hid hk
  clear hk
  obtain ⟨q0, hq0⟩ : ∃ q, q = rs1 r := ⟨_, rfl⟩
  have z0 : q0.rest.size ≤ 1099511627776 := by rw [hq0]; exact Nat.le_trans (tkR_le r 1) hz
  have hBw := h.lt
  have hr := At.new w 39 #[.int .i64 0, .string ⟨#[]⟩, .string ⟨#[]⟩, .int .u8 0, .int .u8 0, .int .u8 0, .int .u8 0, .int .u8 0, .int .u8 0, .int .u8 0, .int .u8 0, .int .u8 0, .int .u8 0, .int .u8 0, .int .u8 0, .int .u8 0, .int .u8 0, .int .u8 0, .int .u8 0, .int .u8 0, .int .u8 0, .int .u8 0, .int .u8 0, .int .u8 0, .int .u8 0, .int .u8 0, .int .u8 0, .int .u8 0, .int .u8 0, .int .u8 0, .int .u8 0, .int .u8 0, .int .u8 0, .int .u8 0, .int .u8 0, .string ⟨#[]⟩, .int .i64 0, .int .i64 0]
  have h1 := h.alloc (.cells #[.int .i64 0, .string ⟨#[]⟩, .string ⟨#[]⟩, .int .u8 0, .int .u8 0, .int .u8 0, .int .u8 0, .int .u8 0, .int .u8 0, .int .u8 0, .int .u8 0, .int .u8 0, .int .u8 0, .int .u8 0, .int .u8 0, .int .u8 0, .int .u8 0, .int .u8 0, .int .u8 0, .int .u8 0, .int .u8 0, .int .u8 0, .int .u8 0, .int .u8 0, .int .u8 0, .int .u8 0, .int .u8 0, .int .u8 0, .int .u8 0, .int .u8 0, .int .u8 0, .int .u8 0, .int .u8 0, .int .u8 0, .int .u8 0, .string ⟨#[]⟩, .int .i64 0, .int .i64 0] 39)
  have F : Below w.heap.size w (w.alloc (.cells #[.int .i64 0, .string ⟨#[]⟩, .string ⟨#[]⟩, .int .u8 0, .int .u8 0, .int .u8 0, .int .u8 0, .int .u8 0, .int .u8 0, .int .u8 0, .int .u8 0, .int .u8 0, .int .u8 0, .int .u8 0, .int .u8 0, .int .u8 0, .int .u8 0, .int .u8 0, .int .u8 0, .int .u8 0, .int .u8 0, .int .u8 0, .int .u8 0, .int .u8 0, .int .u8 0, .int .u8 0, .int .u8 0, .int .u8 0, .int .u8 0, .int .u8 0, .int .u8 0, .int .u8 0, .int .u8 0, .int .u8 0, .int .u8 0, .string ⟨#[]⟩, .int .i64 0, .int .i64 0] 39)) := (Below.refl _ _).alloc (Nat.le_refl _) _
  clear h
  go_enter Tryz.func91, Tryz.ntmps91
  go_upto_region 1 with (fail)
  obtain ⟨R, hR⟩ : ∃ R, R = w.heap.size := ⟨_, rfl⟩
  rw [← hR] at hr ⊢
  generalize w.alloc (.cells #[.int .i64 0, .string ⟨#[]⟩, .string ⟨#[]⟩, .int .u8 0, .int .u8 0, .int .u8 0, .int .u8 0, .int .u8 0, .int .u8 0, .int .u8 0, .int .u8 0, .int .u8 0, .int .u8 0, .int .u8 0, .int .u8 0, .int .u8 0, .int .u8 0, .int .u8 0, .int .u8 0, .int .u8 0, .int .u8 0, .int .u8 0, .int .u8 0, .int .u8 0, .int .u8 0, .int .u8 0, .int .u8 0, .int .u8 0, .int .u8 0, .int .u8 0, .int .u8 0, .int .u8 0, .int .u8 0, .int .u8 0, .int .u8 0, .string ⟨#[]⟩, .int .i64 0, .int .i64 0] 39) = w1 at hr h1 F ⊢
  have HR := Lib.hid hR
  clear hR
  rw [zslip] at hr
  have T1 := Turns.of_below (B := B) F
  clear F
  have hRB : R ≠ B := by have := HR.out; omega
  go_wp2_with fail
  refine (take_any h1 1 hz (by decide)).mono ?_
  rintro e w2 ⟨rfl, A2, K2⟩
  rw [show tkR r 1 = q0 from hq0.symm] at A2
  have HQ0 := Lib.hid hq0
  clear hq0
  replace hr := hr.turns K2 hRB
  have T2 := T1.trans K2
  clear h1 T1 K2
  go_wp2_with fail
  refine (number_any (tkV r 1) _ (by have := tkV_size r 1; omega)).mono ?_
  rintro e vX ⟨rfl, rfl⟩
  rw [show IntKind.i64.wrap (bN (bl (tkV r 1)) : Int) = 5 from HK.out]
  have HRL := Lib.hid hr.lt
  obtain ⟨w3, S3, hy, G3, Z3⟩ := k_keep w2 5
  clear Z3
  replace hr := hr.old G3
  replace A2 := A2.old G3
  have hYn : w.heap.size ≤ w2.heap.size := T2.size
  have T3 := T2.trans (Turns.of_below G3)
  have hRY : R ≠ w2.heap.size := by
    have h5 := HRL.out
    omega
  go_upto_region 2 with (refine wpl_store S3 rfl rfl rfl rfl rfl ?_)
  clear S3 T2 G3
  generalize w2.heap.size = Y at hy hYn hRY ⊢
  have c0 : w3.cell? ⟨Y, 0, none⟩ = some (.int .i64 5) := hy.cell 0
  go_wp2_with fail
  refine (layout_any 5 _).mono ?_
  rintro e w4 ⟨rfl, G4⟩
  replace hr := hr.old G4
  replace A2 := A2.old G4
  replace hy := hy.old G4
  have T4 := T3.trans (Turns.of_below G4)
  clear T3 G4 c0
  obtain ⟨w5, S5, hl, G5, Z5⟩ := keep (P := Tryz.prog) (ty := 146) w4 #[.bool false, .bool false, .bool false, .bool false] (layV 5) 146 (by kernel_rfl) rfl (lay_one 5)
  clear Z5
  have O : RS w w5 B R Y w4.heap.size 5 ⟨5, none8, none8, zeros, none8, 0, 0⟩ q0 := ⟨A2.old G5, hr.old G5, hy.old G5, hl, T4.trans (Turns.of_below G5), by have := HR.out; have := hy.lt; have := A2.lt; omega⟩
  go_upto_region 3 with (refine wpl_store S5 rfl rfl rfl rfl rfl ?_)
  clear S5 G5 hl T4 hr A2 hy hYn hRY
  generalize w4.heap.size = L at O ⊢
  have ydl := zeros_dig.len
  have y0 : w5.cell? ⟨L, 0, none⟩ = some (.bool false) := O.ly.cell 0
  have y1 : w5.cell? ⟨L, 1, none⟩ = some (.bool true) := O.ly.cell 1
  go_upto_region 7 with (fail)
  clear y0 y1
  refine wp_region_held (S := fun _ => True) (by kernel_rfl) ?_
  change wpAnyH _ _ _ _ _ _ _ _ w5.drew
  replace O := O.drew
  generalize w5.drew = wd at O ⊢
  have CC := take_any O.rd 32 z0 (by decide)
  have ht32 := tk32 q0
  obtain ⟨q1, hq⟩ : ∃ q, q = tkR q0 32 := ⟨_, rfl⟩
  obtain ⟨s1, hs⟩ : ∃ s, s = tkV q0 32 := ⟨_, rfl⟩
  have z1 : q1.rest.size ≤ 1099511627776 := by rw [hq]; exact Nat.le_trans (tkR_le q0 32) z0
  rw [← hq, ← hs] at CC
  have HQ1 := Lib.hid hq; have HS1 := Lib.hid hs
  clear hq hs
  rw [← HS1.out] at ht32
  have HT32 := Lib.hid ht32
  clear ht32
  refine held_take 0 (.pointer (some ⟨Y, 3, none⟩)) rfl (by kernel_rfl) (by kernel_rfl) (by kernel_rfl) (fun _ _ _ h => h) (Or.inl ⟨by rfl, fun x j => by go_simp⟩) trivial (fun K hK => ?_)
  go_simp
  refine hK _ _ ?_
  clear hK K
  refine held_take 1 (.slice (some ⟨Y, 3, none⟩) 32 32) rfl (by kernel_rfl) (by kernel_rfl) (by kernel_rfl) (fun _ _ _ h => h) (Or.inl ⟨by rfl, fun x j => by go_simp⟩) trivial (fun K hK => ?_)
  go_simp
  refine hK _ _ ?_
  clear hK K
  refine held_take 2 (.pointer (some ⟨B, 0, none⟩)) rfl (by kernel_rfl) (by kernel_rfl) (by kernel_rfl) (fun _ _ _ h => h) (Or.inl ⟨by rfl, fun x j => by go_simp⟩) trivial (fun K hK => ?_)
  go_simp
  refine hK _ _ ?_
  clear hK K
  refine held_one 3 (by kernel_rfl) (fun K hK => wpOp_in rfl rfl ?_)
  go_simp
  refine CC.mono ?_
  rintro e wa ⟨rfl, A', K'⟩
  replace O := O.turns K' A'
  clear A' K' CC
  refine hK _ _ trivial ?_
  clear hK K
  refine held_one 4 (by kernel_rfl) (fun K hK => wpOp_in rfl rfl ?_)
  obtain ⟨X, hX, hX2⟩ := copy_dig O.sy rfl s1 HT32.out 0
  refine wp_copy (fun ty => copy_ty hX ty) rfl rfl rfl ?_
  go_simp
  refine hK _ _ trivial ?_
  clear hK K
  refine wpAnyH_done (by kernel_rfl) ?_ _
  have O2 := O.copied rfl hX2
  clear O hX hX2
  generalize X = w6 at O2 ⊢
  have O : RS w w6 B R Y L 5 ⟨5, none8, none8, dgV s1, none8, 0, 0⟩ (q1) := O2
  clear O2 ydl
  have ydl := (dgV_dig s1).len
  have y2 : w6.cell? ⟨L, 2, none⟩ = some (.bool false) := O.ly.cell 2
  have y3 : w6.cell? ⟨L, 3, none⟩ = some (.bool false) := O.ly.cell 3
  have FF : rsX r = ⟨5, none8, none8, dgV s1, none8, 0, 0⟩ ∧ rsR r = q1 := by
    unfold rsX rsR rs4 rs3 rs2
    rw [HK.out]
    simp only [rT, rD, rM, rA, LT.out, LD.out, LM.out, LA.out, if_true, Bool.false_eq_true, if_false]
    simp only [HS1.out, HQ1.out, HQ0.out]
    first | exact ⟨rfl, rfl⟩ | exact ⟨rfl, trivial⟩ | exact ⟨trivial, rfl⟩ | trivial
  have fin := FF.1.symm
  have fir := FF.2.symm
  clear FF
  rw [fin, fir] at O
  have zd : (rsX r).dig.length = 32 := by rw [← fin]; exact ydl
  clear fin fir ydl
  have D1 := sl_loads O.sy zd
  have D2 := sl_stores O.rs zeros_dig.len zd
  have R1 := O.rs.row (slV (rsX r))
  have E1 := O.rd.rowOther (ds := slV (rsX r)) O.ne.2.2.2.2.2.2.2.2
  have U1 := turns_row (cs := slV (rsX r)) O.turn O.ne.2.2.2.2.2.2.2.1
  generalize w6.setRow R (slV (rsX r)) = w99 at D2 R1 E1 U1
  go_wp2_with (first | refine wpl_load D1 rfl rfl rfl ?_ | refine wpl_store D2 rfl rfl rfl rfl rfl ?_)
  exact bodyPost_ret (results_cell_row Tryz.results91 _ _ R 39 (slV (rsX r)) (0, 0) _ rfl R1.heap Tryz.underlying39 rfl (by rw [slV_size zd]; kernel_rfl)) rfl ⟨rfl, E1, U1⟩
set_option maxHeartbeats 4000000 in
theorem rslip_touch {w : World} {B : Nat} {r : Rd} (h : At w B 141 (rdV r)) (hk : nb r 1 = 6) (hz : r.rest.size ≤ 1099511627776) :
    Calls Tryz.prog 91 #[.pointer (some ⟨B, 0, none⟩)] w fun e w' => e = .returned (.agg (slV (rsX r))) ∧ At w' B 141 (rdV (rsR r)) ∧ Turns B w w' := by
  have lT : hT 6 = false := rfl
  have lD : hD 6 = true := rfl
  have lM : hM 6 = false := rfl
  have lA : hA 6 = false := rfl
  have LT := Lib.hid lT; have LD := Lib.hid lD; have LM := Lib.hid lM; have LA := Lib.hid lA
  clear lT lD lM lA
  have HK := Lib.hid hk
  clear hk
  obtain ⟨q0, hq0⟩ : ∃ q, q = rs1 r := ⟨_, rfl⟩
  have z0 : q0.rest.size ≤ 1099511627776 := by rw [hq0]; exact Nat.le_trans (tkR_le r 1) hz
  have hBw := h.lt
  have hr := At.new w 39 #[.int .i64 0, .string ⟨#[]⟩, .string ⟨#[]⟩, .int .u8 0, .int .u8 0, .int .u8 0, .int .u8 0, .int .u8 0, .int .u8 0, .int .u8 0, .int .u8 0, .int .u8 0, .int .u8 0, .int .u8 0, .int .u8 0, .int .u8 0, .int .u8 0, .int .u8 0, .int .u8 0, .int .u8 0, .int .u8 0, .int .u8 0, .int .u8 0, .int .u8 0, .int .u8 0, .int .u8 0, .int .u8 0, .int .u8 0, .int .u8 0, .int .u8 0, .int .u8 0, .int .u8 0, .int .u8 0, .int .u8 0, .int .u8 0, .string ⟨#[]⟩, .int .i64 0, .int .i64 0]
  have h1 := h.alloc (.cells #[.int .i64 0, .string ⟨#[]⟩, .string ⟨#[]⟩, .int .u8 0, .int .u8 0, .int .u8 0, .int .u8 0, .int .u8 0, .int .u8 0, .int .u8 0, .int .u8 0, .int .u8 0, .int .u8 0, .int .u8 0, .int .u8 0, .int .u8 0, .int .u8 0, .int .u8 0, .int .u8 0, .int .u8 0, .int .u8 0, .int .u8 0, .int .u8 0, .int .u8 0, .int .u8 0, .int .u8 0, .int .u8 0, .int .u8 0, .int .u8 0, .int .u8 0, .int .u8 0, .int .u8 0, .int .u8 0, .int .u8 0, .int .u8 0, .string ⟨#[]⟩, .int .i64 0, .int .i64 0] 39)
  have F : Below w.heap.size w (w.alloc (.cells #[.int .i64 0, .string ⟨#[]⟩, .string ⟨#[]⟩, .int .u8 0, .int .u8 0, .int .u8 0, .int .u8 0, .int .u8 0, .int .u8 0, .int .u8 0, .int .u8 0, .int .u8 0, .int .u8 0, .int .u8 0, .int .u8 0, .int .u8 0, .int .u8 0, .int .u8 0, .int .u8 0, .int .u8 0, .int .u8 0, .int .u8 0, .int .u8 0, .int .u8 0, .int .u8 0, .int .u8 0, .int .u8 0, .int .u8 0, .int .u8 0, .int .u8 0, .int .u8 0, .int .u8 0, .int .u8 0, .int .u8 0, .int .u8 0, .string ⟨#[]⟩, .int .i64 0, .int .i64 0] 39)) := (Below.refl _ _).alloc (Nat.le_refl _) _
  clear h
  go_enter Tryz.func91, Tryz.ntmps91
  go_upto_region 1 with (fail)
  obtain ⟨R, hR⟩ : ∃ R, R = w.heap.size := ⟨_, rfl⟩
  rw [← hR] at hr ⊢
  generalize w.alloc (.cells #[.int .i64 0, .string ⟨#[]⟩, .string ⟨#[]⟩, .int .u8 0, .int .u8 0, .int .u8 0, .int .u8 0, .int .u8 0, .int .u8 0, .int .u8 0, .int .u8 0, .int .u8 0, .int .u8 0, .int .u8 0, .int .u8 0, .int .u8 0, .int .u8 0, .int .u8 0, .int .u8 0, .int .u8 0, .int .u8 0, .int .u8 0, .int .u8 0, .int .u8 0, .int .u8 0, .int .u8 0, .int .u8 0, .int .u8 0, .int .u8 0, .int .u8 0, .int .u8 0, .int .u8 0, .int .u8 0, .int .u8 0, .int .u8 0, .string ⟨#[]⟩, .int .i64 0, .int .i64 0] 39) = w1 at hr h1 F ⊢
  have HR := Lib.hid hR
  clear hR
  rw [zslip] at hr
  have T1 := Turns.of_below (B := B) F
  clear F
  have hRB : R ≠ B := by have := HR.out; omega
  go_wp2_with fail
  refine (take_any h1 1 hz (by decide)).mono ?_
  rintro e w2 ⟨rfl, A2, K2⟩
  rw [show tkR r 1 = q0 from hq0.symm] at A2
  have HQ0 := Lib.hid hq0
  clear hq0
  replace hr := hr.turns K2 hRB
  have T2 := T1.trans K2
  clear h1 T1 K2
  go_wp2_with fail
  refine (number_any (tkV r 1) _ (by have := tkV_size r 1; omega)).mono ?_
  rintro e vX ⟨rfl, rfl⟩
  rw [show IntKind.i64.wrap (bN (bl (tkV r 1)) : Int) = 6 from HK.out]
  have HRL := Lib.hid hr.lt
  obtain ⟨w3, S3, hy, G3, Z3⟩ := k_keep w2 6
  clear Z3
  replace hr := hr.old G3
  replace A2 := A2.old G3
  have hYn : w.heap.size ≤ w2.heap.size := T2.size
  have T3 := T2.trans (Turns.of_below G3)
  have hRY : R ≠ w2.heap.size := by
    have h5 := HRL.out
    omega
  go_upto_region 2 with (refine wpl_store S3 rfl rfl rfl rfl rfl ?_)
  clear S3 T2 G3
  generalize w2.heap.size = Y at hy hYn hRY ⊢
  have c0 : w3.cell? ⟨Y, 0, none⟩ = some (.int .i64 6) := hy.cell 0
  go_wp2_with fail
  refine (layout_any 6 _).mono ?_
  rintro e w4 ⟨rfl, G4⟩
  replace hr := hr.old G4
  replace A2 := A2.old G4
  replace hy := hy.old G4
  have T4 := T3.trans (Turns.of_below G4)
  clear T3 G4 c0
  obtain ⟨w5, S5, hl, G5, Z5⟩ := keep (P := Tryz.prog) (ty := 146) w4 #[.bool false, .bool false, .bool false, .bool false] (layV 6) 146 (by kernel_rfl) rfl (lay_one 6)
  clear Z5
  have O : RS w w5 B R Y w4.heap.size 6 ⟨6, none8, none8, zeros, none8, 0, 0⟩ q0 := ⟨A2.old G5, hr.old G5, hy.old G5, hl, T4.trans (Turns.of_below G5), by have := HR.out; have := hy.lt; have := A2.lt; omega⟩
  go_upto_region 3 with (refine wpl_store S5 rfl rfl rfl rfl rfl ?_)
  clear S5 G5 hl T4 hr A2 hy hYn hRY
  generalize w4.heap.size = L at O ⊢
  have ydl := zeros_dig.len
  have y0 : w5.cell? ⟨L, 0, none⟩ = some (.bool false) := O.ly.cell 0
  have y1 : w5.cell? ⟨L, 1, none⟩ = some (.bool true) := O.ly.cell 1
  go_upto_region 7 with (fail)
  clear y0 y1
  refine wp_region_held (S := fun _ => True) (by kernel_rfl) ?_
  change wpAnyH _ _ _ _ _ _ _ _ w5.drew
  replace O := O.drew
  generalize w5.drew = wd at O ⊢
  have CC := take_any O.rd 32 z0 (by decide)
  have ht32 := tk32 q0
  obtain ⟨q1, hq⟩ : ∃ q, q = tkR q0 32 := ⟨_, rfl⟩
  obtain ⟨s1, hs⟩ : ∃ s, s = tkV q0 32 := ⟨_, rfl⟩
  have z1 : q1.rest.size ≤ 1099511627776 := by rw [hq]; exact Nat.le_trans (tkR_le q0 32) z0
  rw [← hq, ← hs] at CC
  have HQ1 := Lib.hid hq; have HS1 := Lib.hid hs
  clear hq hs
  rw [← HS1.out] at ht32
  have HT32 := Lib.hid ht32
  clear ht32
  refine held_take 0 (.pointer (some ⟨Y, 3, none⟩)) rfl (by kernel_rfl) (by kernel_rfl) (by kernel_rfl) (fun _ _ _ h => h) (Or.inl ⟨by rfl, fun x j => by go_simp⟩) trivial (fun K hK => ?_)
  go_simp
  refine hK _ _ ?_
  clear hK K
  refine held_take 1 (.slice (some ⟨Y, 3, none⟩) 32 32) rfl (by kernel_rfl) (by kernel_rfl) (by kernel_rfl) (fun _ _ _ h => h) (Or.inl ⟨by rfl, fun x j => by go_simp⟩) trivial (fun K hK => ?_)
  go_simp
  refine hK _ _ ?_
  clear hK K
  refine held_take 2 (.pointer (some ⟨B, 0, none⟩)) rfl (by kernel_rfl) (by kernel_rfl) (by kernel_rfl) (fun _ _ _ h => h) (Or.inl ⟨by rfl, fun x j => by go_simp⟩) trivial (fun K hK => ?_)
  go_simp
  refine hK _ _ ?_
  clear hK K
  refine held_one 3 (by kernel_rfl) (fun K hK => wpOp_in rfl rfl ?_)
  go_simp
  refine CC.mono ?_
  rintro e wa ⟨rfl, A', K'⟩
  replace O := O.turns K' A'
  clear A' K' CC
  refine hK _ _ trivial ?_
  clear hK K
  refine held_one 4 (by kernel_rfl) (fun K hK => wpOp_in rfl rfl ?_)
  obtain ⟨X, hX, hX2⟩ := copy_dig O.sy rfl s1 HT32.out 0
  refine wp_copy (fun ty => copy_ty hX ty) rfl rfl rfl ?_
  go_simp
  refine hK _ _ trivial ?_
  clear hK K
  refine wpAnyH_done (by kernel_rfl) ?_ _
  have O2 := O.copied rfl hX2
  clear O hX hX2
  generalize X = w6 at O2 ⊢
  have O : RS w w6 B R Y L 6 ⟨6, none8, none8, dgV s1, none8, 0, 0⟩ (q1) := O2
  clear O2 ydl
  have ydl := (dgV_dig s1).len
  have y2 : w6.cell? ⟨L, 2, none⟩ = some (.bool false) := O.ly.cell 2
  have y3 : w6.cell? ⟨L, 3, none⟩ = some (.bool false) := O.ly.cell 3
  have FF : rsX r = ⟨6, none8, none8, dgV s1, none8, 0, 0⟩ ∧ rsR r = q1 := by
    unfold rsX rsR rs4 rs3 rs2
    rw [HK.out]
    simp only [rT, rD, rM, rA, LT.out, LD.out, LM.out, LA.out, if_true, Bool.false_eq_true, if_false]
    simp only [HS1.out, HQ1.out, HQ0.out]
    first | exact ⟨rfl, rfl⟩ | exact ⟨rfl, trivial⟩ | exact ⟨trivial, rfl⟩ | trivial
  have fin := FF.1.symm
  have fir := FF.2.symm
  clear FF
  rw [fin, fir] at O
  have zd : (rsX r).dig.length = 32 := by rw [← fin]; exact ydl
  clear fin fir ydl
  have D1 := sl_loads O.sy zd
  have D2 := sl_stores O.rs zeros_dig.len zd
  have R1 := O.rs.row (slV (rsX r))
  have E1 := O.rd.rowOther (ds := slV (rsX r)) O.ne.2.2.2.2.2.2.2.2
  have U1 := turns_row (cs := slV (rsX r)) O.turn O.ne.2.2.2.2.2.2.2.1
  generalize w6.setRow R (slV (rsX r)) = w99 at D2 R1 E1 U1
  go_wp2_with (first | refine wpl_load D1 rfl rfl rfl ?_ | refine wpl_store D2 rfl rfl rfl rfl rfl ?_)
  exact bodyPost_ret (results_cell_row Tryz.results91 _ _ R 39 (slV (rsX r)) (0, 0) _ rfl R1.heap Tryz.underlying39 rfl (by rw [slV_size zd]; kernel_rfl)) rfl ⟨rfl, E1, U1⟩
set_option maxHeartbeats 4000000 in
theorem rslip_none {w : World} {B : Nat} {r : Rd} (k : Int) (h : At w B 141 (rdV r)) (hk : nb r 1 = k) (hn : k ≠ 1 ∧ k ≠ 2 ∧ k ≠ 3 ∧ k ≠ 4 ∧ k ≠ 5 ∧ k ≠ 6) (hz : r.rest.size ≤ 1099511627776) :
    Calls Tryz.prog 91 #[.pointer (some ⟨B, 0, none⟩)] w fun e w' => e = .returned (.agg (slV (rsX r))) ∧ At w' B 141 (rdV (rsR r)) ∧ Turns B w w' := by
  obtain ⟨hn1, hn2, hn3, hn4, hn5, hn6⟩ := hn
  have lT : hT k = false := by simp [hT, hn1, hn2, hn3]
  have lD : hD k = false := by simp [hD, hn1, hn4, hn5, hn6]
  have lM : hM k = false := by simp [hM, hn1, hn4]
  have lA : hA k = false := by simp [hA, hn1, hn2]
  have LT := Lib.hid lT; have LD := Lib.hid lD; have LM := Lib.hid lM; have LA := Lib.hid lA
  clear lT lD lM lA
  have HK := Lib.hid hk
  clear hk
  obtain ⟨q0, hq0⟩ : ∃ q, q = rs1 r := ⟨_, rfl⟩
  have z0 : q0.rest.size ≤ 1099511627776 := by rw [hq0]; exact Nat.le_trans (tkR_le r 1) hz
  have hBw := h.lt
  have hr := At.new w 39 #[.int .i64 0, .string ⟨#[]⟩, .string ⟨#[]⟩, .int .u8 0, .int .u8 0, .int .u8 0, .int .u8 0, .int .u8 0, .int .u8 0, .int .u8 0, .int .u8 0, .int .u8 0, .int .u8 0, .int .u8 0, .int .u8 0, .int .u8 0, .int .u8 0, .int .u8 0, .int .u8 0, .int .u8 0, .int .u8 0, .int .u8 0, .int .u8 0, .int .u8 0, .int .u8 0, .int .u8 0, .int .u8 0, .int .u8 0, .int .u8 0, .int .u8 0, .int .u8 0, .int .u8 0, .int .u8 0, .int .u8 0, .int .u8 0, .string ⟨#[]⟩, .int .i64 0, .int .i64 0]
  have h1 := h.alloc (.cells #[.int .i64 0, .string ⟨#[]⟩, .string ⟨#[]⟩, .int .u8 0, .int .u8 0, .int .u8 0, .int .u8 0, .int .u8 0, .int .u8 0, .int .u8 0, .int .u8 0, .int .u8 0, .int .u8 0, .int .u8 0, .int .u8 0, .int .u8 0, .int .u8 0, .int .u8 0, .int .u8 0, .int .u8 0, .int .u8 0, .int .u8 0, .int .u8 0, .int .u8 0, .int .u8 0, .int .u8 0, .int .u8 0, .int .u8 0, .int .u8 0, .int .u8 0, .int .u8 0, .int .u8 0, .int .u8 0, .int .u8 0, .int .u8 0, .string ⟨#[]⟩, .int .i64 0, .int .i64 0] 39)
  have F : Below w.heap.size w (w.alloc (.cells #[.int .i64 0, .string ⟨#[]⟩, .string ⟨#[]⟩, .int .u8 0, .int .u8 0, .int .u8 0, .int .u8 0, .int .u8 0, .int .u8 0, .int .u8 0, .int .u8 0, .int .u8 0, .int .u8 0, .int .u8 0, .int .u8 0, .int .u8 0, .int .u8 0, .int .u8 0, .int .u8 0, .int .u8 0, .int .u8 0, .int .u8 0, .int .u8 0, .int .u8 0, .int .u8 0, .int .u8 0, .int .u8 0, .int .u8 0, .int .u8 0, .int .u8 0, .int .u8 0, .int .u8 0, .int .u8 0, .int .u8 0, .int .u8 0, .string ⟨#[]⟩, .int .i64 0, .int .i64 0] 39)) := (Below.refl _ _).alloc (Nat.le_refl _) _
  clear h
  go_enter Tryz.func91, Tryz.ntmps91
  go_upto_region 1 with (fail)
  obtain ⟨R, hR⟩ : ∃ R, R = w.heap.size := ⟨_, rfl⟩
  rw [← hR] at hr ⊢
  generalize w.alloc (.cells #[.int .i64 0, .string ⟨#[]⟩, .string ⟨#[]⟩, .int .u8 0, .int .u8 0, .int .u8 0, .int .u8 0, .int .u8 0, .int .u8 0, .int .u8 0, .int .u8 0, .int .u8 0, .int .u8 0, .int .u8 0, .int .u8 0, .int .u8 0, .int .u8 0, .int .u8 0, .int .u8 0, .int .u8 0, .int .u8 0, .int .u8 0, .int .u8 0, .int .u8 0, .int .u8 0, .int .u8 0, .int .u8 0, .int .u8 0, .int .u8 0, .int .u8 0, .int .u8 0, .int .u8 0, .int .u8 0, .int .u8 0, .int .u8 0, .string ⟨#[]⟩, .int .i64 0, .int .i64 0] 39) = w1 at hr h1 F ⊢
  have HR := Lib.hid hR
  clear hR
  rw [zslip] at hr
  have T1 := Turns.of_below (B := B) F
  clear F
  have hRB : R ≠ B := by have := HR.out; omega
  go_wp2_with fail
  refine (take_any h1 1 hz (by decide)).mono ?_
  rintro e w2 ⟨rfl, A2, K2⟩
  rw [show tkR r 1 = q0 from hq0.symm] at A2
  have HQ0 := Lib.hid hq0
  clear hq0
  replace hr := hr.turns K2 hRB
  have T2 := T1.trans K2
  clear h1 T1 K2
  go_wp2_with fail
  refine (number_any (tkV r 1) _ (by have := tkV_size r 1; omega)).mono ?_
  rintro e vX ⟨rfl, rfl⟩
  rw [show IntKind.i64.wrap (bN (bl (tkV r 1)) : Int) = k from HK.out]
  have HRL := Lib.hid hr.lt
  obtain ⟨w3, S3, hy, G3, Z3⟩ := k_keep w2 k
  clear Z3
  replace hr := hr.old G3
  replace A2 := A2.old G3
  have hYn : w.heap.size ≤ w2.heap.size := T2.size
  have T3 := T2.trans (Turns.of_below G3)
  have hRY : R ≠ w2.heap.size := by
    have h5 := HRL.out
    omega
  go_upto_region 2 with (refine wpl_store S3 rfl rfl rfl rfl rfl ?_)
  clear S3 T2 G3
  generalize w2.heap.size = Y at hy hYn hRY ⊢
  have c0 : w3.cell? ⟨Y, 0, none⟩ = some (.int .i64 k) := hy.cell 0
  go_wp2_with fail
  refine (layout_any k _).mono ?_
  rintro e w4 ⟨rfl, G4⟩
  replace hr := hr.old G4
  replace A2 := A2.old G4
  replace hy := hy.old G4
  have T4 := T3.trans (Turns.of_below G4)
  clear T3 G4 c0
  obtain ⟨w5, S5, hl, G5, Z5⟩ := keep (P := Tryz.prog) (ty := 146) w4 #[.bool false, .bool false, .bool false, .bool false] (layV k) 146 (by kernel_rfl) rfl (lay_one k)
  clear Z5
  have O : RS w w5 B R Y w4.heap.size k ⟨k, none8, none8, zeros, none8, 0, 0⟩ q0 := ⟨A2.old G5, hr.old G5, hy.old G5, hl, T4.trans (Turns.of_below G5), by have := HR.out; have := hy.lt; have := A2.lt; omega⟩
  go_upto_region 3 with (refine wpl_store S5 rfl rfl rfl rfl rfl ?_)
  clear S5 G5 hl T4 hr A2 hy hYn hRY
  generalize w4.heap.size = L at O ⊢
  have ydl := zeros_dig.len
  have y0 : w5.cell? ⟨L, 0, none⟩ = some (.bool false) := (O.ly.cell 0).trans (by show some (Value.bool (hT k)) = _; rw [LT.out])
  have y1 : w5.cell? ⟨L, 1, none⟩ = some (.bool false) := (O.ly.cell 1).trans (by show some (Value.bool (hD k)) = _; rw [LD.out])
  have y2 : w5.cell? ⟨L, 2, none⟩ = some (.bool false) := (O.ly.cell 2).trans (by show some (Value.bool (hM k)) = _; rw [LM.out])
  have y3 : w5.cell? ⟨L, 3, none⟩ = some (.bool false) := (O.ly.cell 3).trans (by show some (Value.bool (hA k)) = _; rw [LA.out])
  have FF : rsX r = ⟨k, none8, none8, zeros, none8, 0, 0⟩ ∧ rsR r = q0 := by
    unfold rsX rsR rs4 rs3 rs2
    rw [HK.out]
    simp only [rT, rD, rM, rA, LT.out, LD.out, LM.out, LA.out, if_true, Bool.false_eq_true, if_false]
    simp only [HQ0.out]
    first | exact ⟨rfl, rfl⟩ | exact ⟨rfl, trivial⟩ | exact ⟨trivial, rfl⟩ | trivial
  have fin := FF.1.symm
  have fir := FF.2.symm
  clear FF
  rw [fin, fir] at O
  have zd : (rsX r).dig.length = 32 := by rw [← fin]; exact ydl
  clear fin fir ydl
  have D1 := sl_loads O.sy zd
  have D2 := sl_stores O.rs zeros_dig.len zd
  have R1 := O.rs.row (slV (rsX r))
  have E1 := O.rd.rowOther (ds := slV (rsX r)) O.ne.2.2.2.2.2.2.2.2
  have U1 := turns_row (cs := slV (rsX r)) O.turn O.ne.2.2.2.2.2.2.2.1
  generalize w5.setRow R (slV (rsX r)) = w99 at D2 R1 E1 U1
  go_wp2_with (first | refine wpl_load D1 rfl rfl rfl ?_ | refine wpl_store D2 rfl rfl rfl rfl rfl ?_)
  exact bodyPost_ret (results_cell_row Tryz.results91 _ _ R 39 (slV (rsX r)) (0, 0) _ rfl R1.heap Tryz.underlying39 rfl (by rw [slV_size zd]; kernel_rfl)) rfl ⟨rfl, E1, U1⟩
theorem rslip_any {w : World} {B : Nat} {r : Rd} (h : At w B 141 (rdV r)) (hz : r.rest.size ≤ 1099511627776) :
    Calls Tryz.prog 91 #[.pointer (some ⟨B, 0, none⟩)] w fun e w' => e = .returned (.agg (slV (rsX r))) ∧ At w' B 141 (rdV (rsR r)) ∧ Turns B w w' := by
  rcases kinds (nb r 1) with e | e | e | e | e | e | e
  · exact rslip_bind h e hz
  · exact rslip_miss h e hz
  · exact rslip_drop h e hz
  · exact rslip_blob h e hz
  · exact rslip_gone h e hz
  · exact rslip_touch h e hz
  · exact rslip_none (nb r 1) h rfl e hz
end Go.Proofs.YtdmgobffhpgjlaaGreat.Sl
