/-
  Contracts of strings.Clone and of the reader's take and text.
  Contract of the reader's slip: what it makes of bytes, as a plain function.
  What the reader makes of a body, and bodies: what was written is read as it was, and what is read whole would have been written so. No program is spoken of.
  Contract of bodyOf: the body of the record that a text begins with, whatever stands in it.
  Contract of Read: what it answers for every text of at most 2^40 bytes.
-/
import Derived.Test.YtdmgobffhpgjlaaGreatSlC
import Derived.Lib.BufferWrite
section
namespace Go.Proofs.YtdmgobffhpgjlaaGreat.Sl
open Go.RowKit Go.PlainAid Go.Proofs.YtdmgobffhpgjlaaGreat.Cr
set_option linter.unusedVariables false
set_option maxRecDepth 20000
set_option linter.unusedSimpArgs false

section
variable {P : Program} {ops : Array Oper} {rest : List Oper} {o : Oper} {a : Act} {w w' : World} {Q : Exit → Act → World → Prop} {t u : TypeId} {x y : Operand} {v vy r : Value}
theorem wpl_copy (hr : ∀ ty, (Builtin.copy_ #[t, u] ty #[v, vy]).run P w = .ok r w') (hgd : o.guard = none) (hop : o.op = .call { callee := .builtin .copy, args := #[x, y], argTypes := #[t, u] }) (hx : a.eval x = v) (hy : a.eval y = vy) (h : wpList P ops Q rest (a.put o.dst r) w') : wpList P ops Q (o :: rest) a w :=
  wpList_plain hgd fun _ hK => by
    unfold Oper.wp execOp
    simp only [hop, resolve, invoke, builtin, Sem.run_bind, Sem.run_pure, Result.andThen_ok, List.map_toArray, List.map_cons, List.map_nil, hx, hy, hr]
    exact hK _ _ h
end
theorem empty_of {s : ByteArray} (h : s.size = 0) : s = ⟨#[]⟩ := by
  apply ByteArray.ext
  exact Array.eq_empty_of_size_eq_zero h
set_option maxHeartbeats 2000000 in
theorem clone_low (s : ByteArray) (w : World) (hs : s.size ≤ 1099511627776) :
    Calls Tryz.prog 132 #[.string s] w fun e w' => e = .returned (.string s) ∧ Below w.heap.size w w' := by
  by_cases h0 : s.size = 0
  · have e := empty_of h0
    subst e
    clear h0
    go_enter Tryz.func132, Tryz.ntmps132
    go_wp2
    go_ret
    exact ⟨rfl, Below.refl _ _⟩
  · obtain ⟨i0, hi, hz0, hz1, hz2⟩ := info_parts infoB
    have l1 : ((s.size : Int) == 0) = false := by rw [beq_eq_false_iff_ne]; omega
    have l2 : ¬ (s.size : Int) = 0 := by omega
    go_enter Tryz.func132, Tryz.ntmps132
    go_upto_region 4 with (at_make; refine wpList_make_full _ rfl _ _ 87 rfl w.heap.size 5 i0 (.int .u8 0) 1 Tryz.underlying87 hi hz0 hz1 .i64 .i64 _ _ s.size rfl rfl (by omega) (by omega) (by rw [hz2]; omega) (by unfold maxLen; omega) (Nat.le_refl _) ?_; intro w1 hown hgrow)
    obtain ⟨cur, hg, hcs⟩ : ∃ cur, w1.heap[w.heap.size]? = some (.cells cur 5 (0, 0)) ∧ cur.size = s.size := by
      rcases hown.2 with ⟨e, _⟩ | ⟨g, cap, cur, e, _, hg, _, _, hc, _⟩
      · cases e
      · injection e with e1 _ e3
        injection e1 with e1
        injection e1 with e1
        subst e1 e3
        exact ⟨cur, hg, by simpa using hc⟩
    have F : Below w.heap.size w w1 := (Below.refl _ _).grown hgrow (Nat.le_refl _) (fun k h => by cases h)
    have hcp := fun ty => Lib.run_copy_row_string (P := Tryz.prog) w1 87 9 ty 5 w.heap.size 0 s.size s.size s cur 5 Tryz.underlying87 (by kernel_rfl) hg (Nat.le_refl _) (by omega)
    have e2 : (cur.toList.take 0 ++ Lib.byteCells s.data.toList ++ cur.toList.drop (0 + s.size)).toArray = (Lib.byteCells s.data.toList).toArray := by
      rw [Nat.zero_add, List.drop_of_length_le (by simp; omega)]
      simp
    rw [e2] at hcp
    have H2 := setRow_heap w1 w.heap.size cur (Lib.byteCells s.data.toList).toArray 5 (0, 0) hg
    have F2 : Below w.heap.size w (w1.setRow w.heap.size (Lib.byteCells s.data.toList).toArray) := below_row F (Nat.le_refl _)
    clear e2 hg hown hgrow F hcs
    generalize w1.setRow w.heap.size (Lib.byteCells s.data.toList).toArray = w2 at hcp H2 F2
    have hlen : s.data.toList.length = s.size := by simp
    have hUS := Lib.run_unsafeString_row (P := Tryz.prog) w2 155 3 9 5 Tryz.underlying155 (by kernel_rfl) w.heap.size s.size (by simp [World.shape?, H2, Lib.byteCells]) s.data.toList (by intro c; rw [c] at hlen; simp at hlen; omega) (by omega) (by omega) (by
      intro j x hx
      rw [add_at, Nat.zero_add, cell_of_row _ _ _ _ _ _ H2]
      simp [Lib.byteCells, hx])
    rw [hlen] at hUS
    have e3 : (⟨s.data.toList.toArray⟩ : ByteArray) = s := by simp
    rw [e3] at hUS
    have F3 := Lib.below_freeze F2 (p := ⟨w.heap.size, 0, none⟩) (Nat.le_refl _) s.size
    clear e3 hlen F2 H2
    have l3 : (0 : Int) < (s.size : Int) := by omega
    go_wp2_with (refine wpl_copy hcp rfl rfl rfl rfl ?_)
    go_ret
    exact ⟨rfl, F3⟩
theorem clone_any (s : ByteArray) (w : World) (hs : s.size ≤ 1099511627776) :
    Calls Tryz.prog 124 #[.string s] w fun e w' => e = .returned (.string s) ∧ Below w.heap.size w w' := by
  go_enter Tryz.func124, Tryz.ntmps124
  go_wp2_with fail
  refine (clone_low s _ hs).mono ?_
  rintro e w1 ⟨rfl, G⟩
  go_wp2
  go_ret
  exact ⟨rfl, G⟩

/-! ### the reader -/
structure Rd where
  rest : ByteArray
  torn : Bool
def rdV (r : Rd) : Array Value := #[.string r.rest, .bool r.torn]
def tkV (r : Rd) (n : Nat) : ByteArray := if r.rest.size < n then ⟨#[]⟩ else r.rest.extract 0 n
def tkR (r : Rd) (n : Nat) : Rd := if r.rest.size < n then ⟨r.rest, true⟩ else ⟨r.rest.extract n r.rest.size, r.torn⟩
/-- below its size nothing but block B has turned -/
def Turns (B : Nat) (w w' : World) : Prop := Keeps B w.heap.size w w'
theorem Turns.trans {B : Nat} {x y z : World} (h : Turns B x y) (k : Turns B y z) : Turns B x z := Keeps.trans h (Keeps.mono k h.size)
theorem Turns.of_below {B : Nat} {w w' : World} (h : Below w.heap.size w w') : Turns B w w' := Keeps.of_below h
theorem At.turns {B b T : Nat} {w w' : World} {cs : Array Value} (h : At w B T cs) (k : Turns b w w') (hb : B ≠ b) : At w' B T cs := h.same (k.block B h.lt hb)
theorem Turns.below {B M : Nat} {w0 w w' : World} (h : Turns B w w') (hb : Below M w0 w) (hM : M ≤ w.heap.size) (hB : M ≤ B) : Below M w0 w' := Keeps.below h hb hM hB
set_option maxHeartbeats 1000000 in
theorem take_any {w : World} {B : Nat} {r : Rd} (h : At w B 141 (rdV r)) (n : Nat) (hz : r.rest.size ≤ 1099511627776) (hn : n ≤ 1000) :
    Calls Tryz.prog 107 #[.pointer (some ⟨B, 0, none⟩), .int .i64 (n : Int)] w fun e w' => e = .returned (.string (tkV r n)) ∧ At w' B 141 (rdV (tkR r n)) ∧ Turns B w w' := by
  have c0 : w.cell? ⟨B, 0, none⟩ = some (.string r.rest) := h.cell 0
  have c1 : w.cell? ⟨B, 1, none⟩ = some (.bool r.torn) := h.cell 1
  have f0 := h.frozen 0
  have f1 := h.frozen 1
  by_cases c : r.rest.size < n
  · have e1 : tkV r n = ⟨#[]⟩ := by unfold tkV; rw [if_pos c]
    have e2 : tkR r n = ⟨r.rest, true⟩ := by unfold tkR; rw [if_pos c]
    have H := h.set 1 (.bool true)
    rw [e1, e2]
    have l1 : (r.rest.size : Int) < (n : Int) := by omega
    clear h
    go_enter Tryz.func107, Tryz.ntmps107
    go_wp2
    go_ret
    exact ⟨rfl, H, Keeps.set w 1 _⟩
  · have e1 : tkV r n = r.rest.extract 0 n := by unfold tkV; rw [if_neg c]
    have e2 : tkR r n = ⟨r.rest.extract n r.rest.size, r.torn⟩ := by unfold tkR; rw [if_neg c]
    have H := h.set 0 (.string (r.rest.extract n r.rest.size))
    rw [e1, e2]
    have l1 : (n : Int) ≤ (r.rest.size : Int) := by omega
    have l2 : (0 : Int) ≤ (n : Int) := by omega
    clear h
    go_enter Tryz.func107, Tryz.ntmps107
    go_wp2
    go_ret
    exact ⟨rfl, H, Keeps.set w 0 _⟩
theorem tkV_size (r : Rd) (n : Nat) : (tkV r n).size ≤ n := by
  unfold tkV
  split
  · exact Nat.zero_le _
  · rw [ByteArray.size_extract]; omega
theorem tkR_le (r : Rd) (n : Nat) : (tkR r n).rest.size ≤ r.rest.size := by
  unfold tkR
  split
  · exact Nat.le_refl _
  · rw [ByteArray.size_extract]; omega
/-- a text's length, its bytes, what is left behind it -/
def txN (r : Rd) : Nat := bN (bl (tkV r 1))
def txV (r : Rd) : ByteArray := tkV (tkR r 1) (txN r)
def txR (r : Rd) : Rd := tkR (tkR r 1) (txN r)
theorem txN_lt (r : Rd) : txN r < 256 := by
  have h := bN_lt (bl (tkV r 1)) (bl_lt _)
  rw [bl_len] at h
  have h2 := tkV_size r 1
  have : 256 ^ (tkV r 1).size ≤ 256 ^ 1 := Nat.pow_le_pow_right (by decide) h2
  exact Nat.lt_of_lt_of_le h this
theorem txR_le (r : Rd) : (txR r).rest.size ≤ r.rest.size := Nat.le_trans (tkR_le _ _) (tkR_le _ _)
/-- a number of so many bytes -/
def nb (r : Rd) (m : Nat) : Int := IntKind.i64.wrap (bN (bl (tkV r m)) : Int)
theorem nb_one (r : Rd) : nb r 1 = (txN r : Int) := by
  have := txN_lt r
  unfold nb
  rw [i64_is, show bN (bl (tkV r 1)) = txN r from rfl]
  unfold wrap64
  omega
set_option maxHeartbeats 1000000 in
theorem rtext_any {w : World} {B : Nat} {r : Rd} (h : At w B 141 (rdV r)) (hz : r.rest.size ≤ 1099511627776) :
    Calls Tryz.prog 108 #[.pointer (some ⟨B, 0, none⟩)] w fun e w' => e = .returned (.string (txV r)) ∧ At w' B 141 (rdV (txR r)) ∧ Turns B w w' := by
  have hl := txN_lt r
  have HN := Lib.hid (nb_one r)
  go_enter Tryz.func108, Tryz.ntmps108
  go_wp2_with fail
  refine (take_any h 1 hz (by decide)).mono ?_
  rintro e w1 ⟨rfl, A1, K1⟩
  clear h
  go_wp2_with fail
  refine (number_any (tkV r 1) _ (by have := tkV_size r 1; omega)).mono ?_
  rintro e v1 ⟨rfl, rfl⟩
  rw [show IntKind.i64.wrap (bN (bl (tkV r 1)) : Int) = (txN r : Int) from HN.out]
  go_wp2_with fail
  refine (take_any A1 (txN r) (by have := tkR_le r 1; omega) (by omega)).mono ?_
  rintro e w2 ⟨rfl, A2, K2⟩
  clear A1
  go_wp2_with fail
  refine (clone_any (txV r) _ (by have := tkV_size (tkR r 1) (txN r); unfold txV; omega)).mono ?_
  rintro e w3 ⟨rfl, G⟩
  replace A2 := A2.old G
  have K3 := (K1.trans K2).trans (Turns.of_below G)
  clear K1 K2 G
  go_wp2
  go_ret
  exact ⟨rfl, A2, K3⟩
end Go.Proofs.YtdmgobffhpgjlaaGreat.Sl
end

section
namespace Go.Proofs.YtdmgobffhpgjlaaGreat.Sl
open Go.RowKit Go.PlainAid Go.Proofs.YtdmgobffhpgjlaaGreat.Cr
set_option linter.unusedVariables false
set_option maxRecDepth 20000
set_option linter.unusedSimpArgs false

/-- the digest that a copy of a text over zeros makes -/
def dgV (s : ByteArray) : List Nat := if s.size = 32 then bl s else zeros
theorem dgV_dig (s : ByteArray) : Dig (dgV s) := by
  unfold dgV
  split
  · rename_i h
    exact ⟨by rw [bl_len, h], bl_lt s⟩
  · exact zeros_dig
def rT (k : Int) (r : Rd) : (ByteArray × ByteArray) × Rd := if hT k then ((txV r, txV (txR r)), txR (txR r)) else ((none8, none8), r)
def rD (k : Int) (r : Rd) : List Nat × Rd := if hD k then (dgV (tkV r 32), tkR r 32) else (zeros, r)
def rM (k : Int) (r : Rd) : (ByteArray × Int) × Rd := if hM k then ((txV r, nb (txR r) 8), tkR (txR r) 8) else ((none8, 0), r)
def rA (k : Int) (r : Rd) : Int × Rd := if hA k then (nb r 8, tkR r 8) else (0, r)
def rs1 (r : Rd) : Rd := tkR r 1
def rs2 (r : Rd) : Rd := (rT (nb r 1) (rs1 r)).2
def rs3 (r : Rd) : Rd := (rD (nb r 1) (rs2 r)).2
def rs4 (r : Rd) : Rd := (rM (nb r 1) (rs3 r)).2
def rsR (r : Rd) : Rd := (rA (nb r 1) (rs4 r)).2
def rsX (r : Rd) : Sp := ⟨nb r 1, (rT (nb r 1) (rs1 r)).1.1, (rT (nb r 1) (rs1 r)).1.2, (rD (nb r 1) (rs2 r)).1, (rM (nb r 1) (rs3 r)).1.1, (rM (nb r 1) (rs3 r)).1.2, (rA (nb r 1) (rs4 r)).1⟩
structure RS (w0 w : World) (B R Y L : Nat) (k : Int) (y : Sp) (r : Rd) : Prop where
  rd : At w B 141 (rdV r)
  rs : At w R 39 (slV Sp.zero)
  sy : At w Y 39 (slV y)
  ly : At w L 146 (layV k)
  turn : Turns B w0 w
  ne : R ≠ B ∧ Y ≠ B ∧ L ≠ B ∧ R ≠ Y ∧ L ≠ Y ∧ B ≠ Y ∧ w0.heap.size ≤ Y ∧ w0.heap.size ≤ R ∧ B ≠ R
section
variable {w0 w w' : World} {B R Y L : Nat} {k : Int} {y y' : Sp} {r r' : Rd}
theorem RS.turns (h : RS w0 w B R Y L k y r) (t : Turns B w w') (a : At w' B 141 (rdV r')) : RS w0 w' B R Y L k y r' :=
  ⟨a, h.rs.turns t h.ne.1, h.sy.turns t h.ne.2.1, h.ly.turns t h.ne.2.2.1, h.turn.trans t, h.ne⟩
theorem turns_new {w0 w : World} {B Y : Nat} (h : Turns B w0 w) (hY : w0.heap.size ≤ Y) (j : Nat) (v : Value) : Turns B w0 (w.setCell ⟨Y, j, none⟩ v) :=
  ⟨h.os, h.tape, h.output, by simpa [World.setCell] using h.size, fun k hk hb => (Below.heap_setCell _ _ _ _ (by simp; omega)).trans (h.block k hk hb)⟩
theorem turns_row {w0 w : World} {B Y : Nat} {cs : Array Value} (h : Turns B w0 w) (hY : w0.heap.size ≤ Y) : Turns B w0 (w.setRow Y cs) :=
  ⟨h.os, h.tape, h.output, by simpa using h.size, fun k hk hb => (heap_setRow_other (by omega)).trans (h.block k hk hb)⟩
theorem RS.set (h : RS w0 w B R Y L k y r) (j : Nat) (v : Value) (e : (slV y).setIfInBounds j v = slV y') : RS w0 (w.setCell ⟨Y, j, none⟩ v) B R Y L k y' r :=
  ⟨h.rd.other h.ne.2.2.2.2.2.1 v, h.rs.other h.ne.2.2.2.1 v, by rw [← e]; exact h.sy.set j v, h.ly.other h.ne.2.2.2.2.1 v, turns_new h.turn h.ne.2.2.2.2.2.2.1 j v, h.ne⟩
theorem RS.row (h : RS w0 w B R Y L k y r) : RS w0 (w.setRow Y (slV y')) B R Y L k y' r :=
  ⟨h.rd.rowOther h.ne.2.2.2.2.2.1, h.rs.rowOther h.ne.2.2.2.1, h.sy.row _, h.ly.rowOther h.ne.2.2.2.2.1, turns_row h.turn h.ne.2.2.2.2.2.2.1, h.ne⟩
theorem RS.drew (h : RS w0 w B R Y L k y r) : RS w0 w.drew B R Y L k y r :=
  ⟨h.rd.drew, h.rs.drew, h.sy.drew, h.ly.drew, h.turn.trans (Turns.of_below ((Below.refl _ _).drew)), h.ne⟩
/-- copy(x.Digest[:], s), of a text of 32 bytes, or of none -/
theorem copy_dig (h : At w Y 39 (slV y)) (hy : y.dig = zeros) (s : ByteArray) (hs : s.size = 32 ∨ s.size = 0) (ty : TypeId) :
    ∃ X, (Builtin.copy_ #[87, 9] ty #[.slice (some ⟨Y, 3, none⟩) 32 32, .string s]).run Tryz.prog w = .ok (goInt s.size) X ∧ (X = w.setRow Y (slV { y with dig := dgV s }) ∨ (X = w ∧ dgV s = zeros)) := by
  rcases hs with h2 | h2
  · have hl : y.dig.length = 32 := by rw [hy]; exact zeros_dig.len
    refine ⟨_, Lib.run_copy_row_string (P := Tryz.prog) w 87 9 ty 5 Y 3 32 32 s (slV y) 39 Tryz.underlying87 (by kernel_rfl) h.heap (by omega) (by rw [slV_size hl]; omega), .inl ?_⟩
    have e1 : Lib.byteCells s.data.toList = dV (bl s) := by simp [Lib.byteCells, dV, bl, List.map_map, Function.comp]
    have e2 : dgV s = bl s := by unfold dgV; rw [if_pos h2]
    have e3 := put_part hl (d := bl s) (by rw [bl_len, h2])
    rw [e2, e1]
    congr 1
    rw [← e3]
    simp [dV_len, bl_len]
  · refine ⟨w, ?_, .inr ⟨rfl, by unfold dgV; rw [if_neg (by omega)]⟩⟩
    have := Lib.run_copy_empty_string (P := Tryz.prog) w 87 9 ty 5 (some ⟨Y, 3, none⟩) 32 32 s Tryz.underlying87 (by kernel_rfl) h2
    rw [h2]
    exact this
theorem RS.copied {X : World} (h : RS w0 w B R Y L k y r) (hy : y.dig = zeros) {s : ByteArray} (hX : X = w.setRow Y (slV { y with dig := dgV s }) ∨ (X = w ∧ dgV s = zeros)) : RS w0 X B R Y L k { y with dig := dgV s } r := by
  rcases hX with rfl | ⟨rfl, e⟩
  · exact h.row
  · rw [e, ← hy]
    exact h
end
theorem tk32 (r : Rd) : (tkV r 32).size = 32 ∨ (tkV r 32).size = 0 := by
  unfold tkV
  split
  · right; rfl
  · left; rw [ByteArray.size_extract]; omega
section
variable {P : Program} {ops : Array Oper} {o : Oper} {a : Act} {w w' : World} {Q : Exit → Act → World → Prop} {K : Act → World → Prop} {t u : TypeId} {x y : Operand} {v vy r : Value}
theorem wp_copy (hr : ∀ ty, (Builtin.copy_ #[t, u] ty #[v, vy]).run P w = .ok r w') (hop : o.op = .call { callee := .builtin .copy, args := #[x, y], argTypes := #[t, u] }) (hx : a.eval x = v) (hy : a.eval y = vy) (h : K (a.put o.dst r) w') : o.wp P a w K Q := by
  unfold Oper.wp execOp
  simp only [hop, resolve, invoke, builtin, Sem.run_bind, Sem.run_pure, Result.andThen_ok, List.map_toArray, List.map_cons, List.map_nil, hx, hy, hr]
  exact h
end
theorem copy_ty {w X : World} {v vy r : Value} (h : (Builtin.copy_ #[87, 9] 0 #[v, vy]).run Tryz.prog w = .ok r X) (ty : TypeId) : (Builtin.copy_ #[87, 9] ty #[v, vy]).run Tryz.prog w = .ok r X := h
set_option maxHeartbeats 4000000 in
theorem rslip_bind {w : World} {B : Nat} {r : Rd} (h : At w B 141 (rdV r)) (hk : nb r 1 = 1) (hz : r.rest.size ≤ 1099511627776) :
    Calls Tryz.prog 91 #[.pointer (some ⟨B, 0, none⟩)] w fun e w' => e = .returned (.agg (slV (rsX r))) ∧ At w' B 141 (rdV (rsR r)) ∧ Turns B w w' := by
  have lT : hT 1 = true := rfl
  have lD : hD 1 = true := rfl
  have lM : hM 1 = true := rfl
  have lA : hA 1 = true := rfl
  have LT := Lib.hid lT; have LD := Lib.hid lD; have LM := Lib.hid lM; have LA := Lib.hid lA
  clear lT lD lM lA
  have HK := Lib.hid hk
  clear hk
  obtain ⟨q0, hq0⟩ : ∃ q, q = rs1 r := ⟨_, rfl⟩
  have z0 : q0.rest.size ≤ 1099511627776 := by rw [hq0]; exact Nat.le_trans (tkR_le r 1) hz
  have hBw := h.lt
  have hr := At.new w 39 #[.int .i64 0, .string ⟨#[]⟩, .string ⟨#[]⟩, .int .u8 0, .int .u8 0, .int .u8 0, .int .u8 0, .int .u8 0, .int .u8 0, .int .u8 0, .int .u8 0, .int .u8 0, .int .u8 0, .int .u8 0, .int .u8 0, .int .u8 0, .int .u8 0, .int .u8 0, .int .u8 0, .int .u8 0, .int .u8 0, .int .u8 0, .int .u8 0, .int .u8 0, .int .u8 0, .int .u8 0, .int .u8 0, .int .u8 0, .int .u8 0, .int .u8 0, .int .u8 0, .int .u8 0, .int .u8 0, .int .u8 0, .int .u8 0, .string ⟨#[]⟩, .int .i64 0, .int .i64 0]
  have h1 := h.alloc (.cells #[.int .i64 0, .string ⟨#[]⟩, .string ⟨#[]⟩, .int .u8 0, .int .u8 0, .int .u8 0, .int .u8 0, .int .u8 0, .int .u8 0, .int .u8 0, .int .u8 0, .int .u8 0, .int .u8 0, .int .u8 0, .int .u8 0, .int .u8 0, .int .u8 0, .int .u8 0, .int .u8 0, .int .u8 0, .int .u8 0, .int .u8 0, .int .u8 0, .int .u8 0, .int .u8 0, .int .u8 0, .int .u8 0, .int .u8 0, .int .u8 0, .int .u8 0, .int .u8 0, .int .u8 0, .int .u8 0, .int .u8 0, .int .u8 0, .string ⟨#[]⟩, .int .i64 0, .int .i64 0] 39)
  have F : Below w.heap.size w (w.alloc (.cells #[.int .i64 0, .string ⟨#[]⟩, .string ⟨#[]⟩, .int .u8 0, .int .u8 0, .int .u8 0, .int .u8 0, .int .u8 0, .int .u8 0, .int .u8 0, .int .u8 0, .int .u8 0, .int .u8 0, .int .u8 0, .int .u8 0, .int .u8 0, .int .u8 0, .int .u8 0, .int .u8 0, .int .u8 0, .int .u8 0, .int .u8 0, .int .u8 0, .int .u8 0, .int .u8 0, .int .u8 0, .int .u8 0, .int .u8 0, .int .u8 0, .int .u8 0, .int .u8 0, .int .u8 0, .int .u8 0, .int .u8 0, .int .u8 0, .string ⟨#[]⟩, .int .i64 0, .int .i64 0] 39)) := (Below.refl _ _).alloc (Nat.le_refl _) _
  clear h
  go_enter Tryz.func91, Tryz.ntmps91
  go_upto_region 1 with (fail)
  obtain ⟨R, hR⟩ : ∃ R, R = w.heap.size := ⟨_, rfl⟩
  rw [← hR] at hr ⊢
  generalize w.alloc (.cells #[.int .i64 0, .string ⟨#[]⟩, .string ⟨#[]⟩, .int .u8 0, .int .u8 0, .int .u8 0, .int .u8 0, .int .u8 0, .int .u8 0, .int .u8 0, .int .u8 0, .int .u8 0, .int .u8 0, .int .u8 0, .int .u8 0, .int .u8 0, .int .u8 0, .int .u8 0, .int .u8 0, .int .u8 0, .int .u8 0, .int .u8 0, .int .u8 0, .int .u8 0, .int .u8 0, .int .u8 0, .int .u8 0, .int .u8 0, .int .u8 0, .int .u8 0, .int .u8 0, .int .u8 0, .int .u8 0, .int .u8 0, .int .u8 0, .string ⟨#[]⟩, .int .i64 0, .int .i64 0] 39) = w1 at hr h1 F ⊢
  have HR := Lib.hid hR
  clear hR
  rw [zslip] at hr
  have T1 := Turns.of_below (B := B) F
  clear F
  have hRB : R ≠ B := by have := HR.out; omega
  go_wp2_with fail
  refine (take_any h1 1 hz (by decide)).mono ?_
  rintro e w2 ⟨rfl, A2, K2⟩
  rw [show tkR r 1 = q0 from hq0.symm] at A2
  have HQ0 := Lib.hid hq0
  clear hq0
  replace hr := hr.turns K2 hRB
  have T2 := T1.trans K2
  clear h1 T1 K2
  go_wp2_with fail
  refine (number_any (tkV r 1) _ (by have := tkV_size r 1; omega)).mono ?_
  rintro e vX ⟨rfl, rfl⟩
  rw [show IntKind.i64.wrap (bN (bl (tkV r 1)) : Int) = 1 from HK.out]
  have HRL := Lib.hid hr.lt
  obtain ⟨w3, S3, hy, G3, Z3⟩ := k_keep w2 1
  clear Z3
  replace hr := hr.old G3
  replace A2 := A2.old G3
  have hYn : w.heap.size ≤ w2.heap.size := T2.size
  have T3 := T2.trans (Turns.of_below G3)
  have hRY : R ≠ w2.heap.size := by
    have h5 := HRL.out
    omega
  go_upto_region 2 with (refine wpl_store S3 rfl rfl rfl rfl rfl ?_)
  clear S3 T2 G3
  generalize w2.heap.size = Y at hy hYn hRY ⊢
  have c0 : w3.cell? ⟨Y, 0, none⟩ = some (.int .i64 1) := hy.cell 0
  go_wp2_with fail
  refine (layout_any 1 _).mono ?_
  rintro e w4 ⟨rfl, G4⟩
  replace hr := hr.old G4
  replace A2 := A2.old G4
  replace hy := hy.old G4
  have T4 := T3.trans (Turns.of_below G4)
  clear T3 G4 c0
  obtain ⟨w5, S5, hl, G5, Z5⟩ := keep (P := Tryz.prog) (ty := 146) w4 #[.bool false, .bool false, .bool false, .bool false] (layV 1) 146 (by kernel_rfl) rfl (lay_one 1)
  clear Z5
  have O : RS w w5 B R Y w4.heap.size 1 ⟨1, none8, none8, zeros, none8, 0, 0⟩ q0 := ⟨A2.old G5, hr.old G5, hy.old G5, hl, T4.trans (Turns.of_below G5), by have := HR.out; have := hy.lt; have := A2.lt; omega⟩
  go_upto_region 3 with (refine wpl_store S5 rfl rfl rfl rfl rfl ?_)
  clear S5 G5 hl T4 hr A2 hy hYn hRY
  generalize w4.heap.size = L at O ⊢
  have y0 : w5.cell? ⟨L, 0, none⟩ = some (.bool true) := O.ly.cell 0
  have CC := rtext_any O.rd z0
  obtain ⟨q1, hq⟩ : ∃ q, q = txR q0 := ⟨_, rfl⟩
  obtain ⟨s1, hs⟩ : ∃ s, s = txV q0 := ⟨_, rfl⟩
  have z1 : q1.rest.size ≤ 1099511627776 := by rw [hq]; exact Nat.le_trans (txR_le q0) z0
  rw [← hq, ← hs] at CC
  have HQ1 := Lib.hid hq; have HS1 := Lib.hid hs
  clear hq hs
  go_wp2_with fail
  refine CC.mono ?_
  rintro e w6 ⟨rfl, A', K'⟩
  replace O := O.turns K' A'
  clear A' K' CC y0
  have f1 := O.sy.frozen 1
  have d1 : w6.cell? ⟨Y, 1, none⟩ = some (.string none8) := O.sy.cell 1
  go_upto_region 5 with (fail)
  have O2 := O.set 1 (.string s1) (set1 ⟨1, none8, none8, zeros, none8, 0, 0⟩ _)
  clear O f1 d1
  generalize w6.setCell ⟨Y, 1, none⟩ (.string s1) = w7 at O2 ⊢
  have O : RS w w7 B R Y L 1 ⟨1, s1, none8, zeros, none8, 0, 0⟩ (q1) := O2
  clear O2
  have CC := rtext_any O.rd z1
  obtain ⟨q2, hq⟩ : ∃ q, q = txR q1 := ⟨_, rfl⟩
  obtain ⟨s2, hs⟩ : ∃ s, s = txV q1 := ⟨_, rfl⟩
  have z2 : q2.rest.size ≤ 1099511627776 := by rw [hq]; exact Nat.le_trans (txR_le q1) z1
  rw [← hq, ← hs] at CC
  have HQ2 := Lib.hid hq; have HS2 := Lib.hid hs
  clear hq hs
  go_wp2_with fail
  refine CC.mono ?_
  rintro e w8 ⟨rfl, A', K'⟩
  replace O := O.turns K' A'
  clear A' K' CC 
  have f1 := O.sy.frozen 2
  have d1 : w8.cell? ⟨Y, 2, none⟩ = some (.string none8) := O.sy.cell 2
  go_upto_region 6 with (fail)
  have O2 := O.set 2 (.string s2) (set2 ⟨1, s1, none8, zeros, none8, 0, 0⟩ _)
  clear O f1 d1
  generalize w8.setCell ⟨Y, 2, none⟩ (.string s2) = w9 at O2 ⊢
  have O : RS w w9 B R Y L 1 ⟨1, s1, s2, zeros, none8, 0, 0⟩ (q2) := O2
  clear O2
  have ydl := zeros_dig.len
  have y1 : w9.cell? ⟨L, 1, none⟩ = some (.bool true) := O.ly.cell 1
  go_upto_region 7 with (fail)
  clear y1
  refine wp_region_held (S := fun _ => True) (by kernel_rfl) ?_
  change wpAnyH _ _ _ _ _ _ _ _ w9.drew
  replace O := O.drew
  generalize w9.drew = wd at O ⊢
  have CC := take_any O.rd 32 z2 (by decide)
  have ht32 := tk32 q2
  obtain ⟨q3, hq⟩ : ∃ q, q = tkR q2 32 := ⟨_, rfl⟩
  obtain ⟨s3, hs⟩ : ∃ s, s = tkV q2 32 := ⟨_, rfl⟩
  have z3 : q3.rest.size ≤ 1099511627776 := by rw [hq]; exact Nat.le_trans (tkR_le q2 32) z2
  rw [← hq, ← hs] at CC
  have HQ3 := Lib.hid hq; have HS3 := Lib.hid hs
  clear hq hs
  rw [← HS3.out] at ht32
  have HT32 := Lib.hid ht32
  clear ht32
  refine held_take 0 (.pointer (some ⟨Y, 3, none⟩)) rfl (by kernel_rfl) (by kernel_rfl) (by kernel_rfl) (fun _ _ _ h => h) (Or.inl ⟨by rfl, fun x j => by go_simp⟩) trivial (fun K hK => ?_)
  go_simp
  refine hK _ _ ?_
  clear hK K
  refine held_take 1 (.slice (some ⟨Y, 3, none⟩) 32 32) rfl (by kernel_rfl) (by kernel_rfl) (by kernel_rfl) (fun _ _ _ h => h) (Or.inl ⟨by rfl, fun x j => by go_simp⟩) trivial (fun K hK => ?_)
  go_simp
  refine hK _ _ ?_
  clear hK K
  refine held_take 2 (.pointer (some ⟨B, 0, none⟩)) rfl (by kernel_rfl) (by kernel_rfl) (by kernel_rfl) (fun _ _ _ h => h) (Or.inl ⟨by rfl, fun x j => by go_simp⟩) trivial (fun K hK => ?_)
  go_simp
  refine hK _ _ ?_
  clear hK K
  refine held_one 3 (by kernel_rfl) (fun K hK => wpOp_in rfl rfl ?_)
  go_simp
  refine CC.mono ?_
  rintro e wa ⟨rfl, A', K'⟩
  replace O := O.turns K' A'
  clear A' K' CC
  refine hK _ _ trivial ?_
  clear hK K
  refine held_one 4 (by kernel_rfl) (fun K hK => wpOp_in rfl rfl ?_)
  obtain ⟨X, hX, hX2⟩ := copy_dig O.sy rfl s3 HT32.out 0
  refine wp_copy (fun ty => copy_ty hX ty) rfl rfl rfl ?_
  go_simp
  refine hK _ _ trivial ?_
  clear hK K
  refine wpAnyH_done (by kernel_rfl) ?_ _
  have O2 := O.copied rfl hX2
  clear O hX hX2
  generalize X = w10 at O2 ⊢
  have O : RS w w10 B R Y L 1 ⟨1, s1, s2, dgV s3, none8, 0, 0⟩ (q3) := O2
  clear O2 ydl
  have ydl := (dgV_dig s3).len
  have y2 : w10.cell? ⟨L, 2, none⟩ = some (.bool true) := O.ly.cell 2
  have CC := rtext_any O.rd z3
  obtain ⟨q4, hq⟩ : ∃ q, q = txR q3 := ⟨_, rfl⟩
  obtain ⟨s4, hs⟩ : ∃ s, s = txV q3 := ⟨_, rfl⟩
  have z4 : q4.rest.size ≤ 1099511627776 := by rw [hq]; exact Nat.le_trans (txR_le q3) z3
  rw [← hq, ← hs] at CC
  have HQ4 := Lib.hid hq; have HS4 := Lib.hid hs
  clear hq hs
  go_wp2_with fail
  refine CC.mono ?_
  rintro e w11 ⟨rfl, A', K'⟩
  replace O := O.turns K' A'
  clear A' K' CC y2
  have f1 := O.sy.frozen 35
  have d1 : w11.cell? ⟨Y, 35, none⟩ = some (.string none8) := (O.sy.cell 35).trans (sl35 ydl)
  go_upto_region 10 with (fail)
  have O2 := O.set 35 (.string s4) (set35 (x := ⟨1, s1, s2, dgV s3, none8, 0, 0⟩) ydl _)
  clear O f1 d1
  generalize w11.setCell ⟨Y, 35, none⟩ (.string s4) = w12 at O2 ⊢
  have O : RS w w12 B R Y L 1 ⟨1, s1, s2, dgV s3, s4, 0, 0⟩ (q4) := O2
  clear O2
  have CC := take_any O.rd 8 z4 (by decide)
  have hs8 := tkV_size q4 8
  obtain ⟨b4, hb8⟩ : ∃ b, b = nb q4 8 := ⟨_, rfl⟩
  obtain ⟨q5, hq⟩ : ∃ q, q = tkR q4 8 := ⟨_, rfl⟩
  obtain ⟨s5, hs⟩ : ∃ s, s = tkV q4 8 := ⟨_, rfl⟩
  have z5 : q5.rest.size ≤ 1099511627776 := by rw [hq]; exact Nat.le_trans (tkR_le q4 8) z4
  rw [← hq, ← hs] at CC
  have HQ5 := Lib.hid hq; have HS5 := Lib.hid hs
  clear hq hs
  rw [show nb q4 8 = IntKind.i64.wrap (bN (bl (tkV q4 8)) : Int) from rfl, ← HS5.out] at hb8
  rw [← HS5.out] at hs8
  go_wp2_with fail
  refine CC.mono ?_
  rintro e w13 ⟨rfl, A', K'⟩
  replace O := O.turns K' A'
  clear A' K' CC 
  go_wp2_with fail
  refine (number_any s5 _ (by omega)).mono ?_
  rintro e vX ⟨rfl, rfl⟩
  rw [← hb8]
  have HB5 := Lib.hid hb8
  clear hb8 hs8
  have f1 := O.sy.frozen 36
  have d1 : w13.cell? ⟨Y, 36, none⟩ = some (.int .i64 0) := (O.sy.cell 36).trans (sl36 ydl)
  go_upto_region 11 with (fail)
  have O2 := O.set 36 (.int .i64 b4) (set36 (x := ⟨1, s1, s2, dgV s3, s4, 0, 0⟩) ydl _)
  clear O f1 d1
  generalize w13.setCell ⟨Y, 36, none⟩ (.int .i64 b4) = w14 at O2 ⊢
  have O : RS w w14 B R Y L 1 ⟨1, s1, s2, dgV s3, s4, b4, 0⟩ (q5) := O2
  clear O2
  have y3 : w14.cell? ⟨L, 3, none⟩ = some (.bool true) := O.ly.cell 3
  have CC := take_any O.rd 8 z5 (by decide)
  have hs8 := tkV_size q5 8
  obtain ⟨b5, hb8⟩ : ∃ b, b = nb q5 8 := ⟨_, rfl⟩
  obtain ⟨q6, hq⟩ : ∃ q, q = tkR q5 8 := ⟨_, rfl⟩
  obtain ⟨s6, hs⟩ : ∃ s, s = tkV q5 8 := ⟨_, rfl⟩
  have z6 : q6.rest.size ≤ 1099511627776 := by rw [hq]; exact Nat.le_trans (tkR_le q5 8) z5
  rw [← hq, ← hs] at CC
  have HQ6 := Lib.hid hq; have HS6 := Lib.hid hs
  clear hq hs
  rw [show nb q5 8 = IntKind.i64.wrap (bN (bl (tkV q5 8)) : Int) from rfl, ← HS6.out] at hb8
  rw [← HS6.out] at hs8
  go_wp2_with fail
  refine CC.mono ?_
  rintro e w15 ⟨rfl, A', K'⟩
  replace O := O.turns K' A'
  clear A' K' CC y3
  go_wp2_with fail
  refine (number_any s6 _ (by omega)).mono ?_
  rintro e vX ⟨rfl, rfl⟩
  rw [← hb8]
  have HB6 := Lib.hid hb8
  clear hb8 hs8
  have f1 := O.sy.frozen 37
  have d1 : w15.cell? ⟨Y, 37, none⟩ = some (.int .i64 0) := (O.sy.cell 37).trans (sl37 ydl)
  go_upto_region 13 with (fail)
  have O2 := O.set 37 (.int .i64 b5) (set37 (x := ⟨1, s1, s2, dgV s3, s4, b4, 0⟩) ydl _)
  clear O f1 d1
  generalize w15.setCell ⟨Y, 37, none⟩ (.int .i64 b5) = w16 at O2 ⊢
  have O : RS w w16 B R Y L 1 ⟨1, s1, s2, dgV s3, s4, b4, b5⟩ (q6) := O2
  clear O2
  have FF : rsX r = ⟨1, s1, s2, dgV s3, s4, b4, b5⟩ ∧ rsR r = q6 := by
    unfold rsX rsR rs4 rs3 rs2
    rw [HK.out]
    simp only [rT, rD, rM, rA, LT.out, LD.out, LM.out, LA.out, if_true, Bool.false_eq_true, if_false]
    simp only [HB6.out, HB5.out, HS6.out, HS5.out, HS4.out, HS3.out, HS2.out, HS1.out, HQ6.out, HQ5.out, HQ4.out, HQ3.out, HQ2.out, HQ1.out, HQ0.out]
    first | exact ⟨rfl, rfl⟩ | exact ⟨rfl, trivial⟩ | exact ⟨trivial, rfl⟩ | trivial
  have fin := FF.1.symm
  have fir := FF.2.symm
  clear FF
  rw [fin, fir] at O
  have zd : (rsX r).dig.length = 32 := by rw [← fin]; exact ydl
  clear fin fir ydl
  have D1 := sl_loads O.sy zd
  have D2 := sl_stores O.rs zeros_dig.len zd
  have R1 := O.rs.row (slV (rsX r))
  have E1 := O.rd.rowOther (ds := slV (rsX r)) O.ne.2.2.2.2.2.2.2.2
  have U1 := turns_row (cs := slV (rsX r)) O.turn O.ne.2.2.2.2.2.2.2.1
  generalize w16.setRow R (slV (rsX r)) = w99 at D2 R1 E1 U1
  go_wp2_with (first | refine wpl_load D1 rfl rfl rfl ?_ | refine wpl_store D2 rfl rfl rfl rfl rfl ?_)
  exact bodyPost_ret (results_cell_row Tryz.results91 _ _ R 39 (slV (rsX r)) (0, 0) _ rfl R1.heap Tryz.underlying39 rfl (by rw [slV_size zd]; kernel_rfl)) rfl ⟨rfl, E1, U1⟩
set_option maxHeartbeats 4000000 in
theorem rslip_miss {w : World} {B : Nat} {r : Rd} (h : At w B 141 (rdV r)) (hk : nb r 1 = 2) (hz : r.rest.size ≤ 1099511627776) :
    Calls Tryz.prog 91 #[.pointer (some ⟨B, 0, none⟩)] w fun e w' => e = .returned (.agg (slV (rsX r))) ∧ At w' B 141 (rdV (rsR r)) ∧ Turns B w w' := by
  have lT : hT 2 = true := rfl
  have lD : hD 2 = false := rfl
  have lM : hM 2 = false := rfl
  have lA : hA 2 = true := rfl
  have LT := Lib.hid lT; have LD := Lib.hid lD; have LM := Lib.hid lM; have LA := Lib.hid lA
  clear lT lD lM lA
  have HK := Lib.hid hk
  clear hk
  obtain ⟨q0, hq0⟩ : ∃ q, q = rs1 r := ⟨_, rfl⟩
  have z0 : q0.rest.size ≤ 1099511627776 := by rw [hq0]; exact Nat.le_trans (tkR_le r 1) hz
  have hBw := h.lt
  have hr := At.new w 39 #[.int .i64 0, .string ⟨#[]⟩, .string ⟨#[]⟩, .int .u8 0, .int .u8 0, .int .u8 0, .int .u8 0, .int .u8 0, .int .u8 0, .int .u8 0, .int .u8 0, .int .u8 0, .int .u8 0, .int .u8 0, .int .u8 0, .int .u8 0, .int .u8 0, .int .u8 0, .int .u8 0, .int .u8 0, .int .u8 0, .int .u8 0, .int .u8 0, .int .u8 0, .int .u8 0, .int .u8 0, .int .u8 0, .int .u8 0, .int .u8 0, .int .u8 0, .int .u8 0, .int .u8 0, .int .u8 0, .int .u8 0, .int .u8 0, .string ⟨#[]⟩, .int .i64 0, .int .i64 0]
  have h1 := h.alloc (.cells #[.int .i64 0, .string ⟨#[]⟩, .string ⟨#[]⟩, .int .u8 0, .int .u8 0, .int .u8 0, .int .u8 0, .int .u8 0, .int .u8 0, .int .u8 0, .int .u8 0, .int .u8 0, .int .u8 0, .int .u8 0, .int .u8 0, .int .u8 0, .int .u8 0, .int .u8 0, .int .u8 0, .int .u8 0, .int .u8 0, .int .u8 0, .int .u8 0, .int .u8 0, .int .u8 0, .int .u8 0, .int .u8 0, .int .u8 0, .int .u8 0, .int .u8 0, .int .u8 0, .int .u8 0, .int .u8 0, .int .u8 0, .int .u8 0, .string ⟨#[]⟩, .int .i64 0, .int .i64 0] 39)
  have F : Below w.heap.size w (w.alloc (.cells #[.int .i64 0, .string ⟨#[]⟩, .string ⟨#[]⟩, .int .u8 0, .int .u8 0, .int .u8 0, .int .u8 0, .int .u8 0, .int .u8 0, .int .u8 0, .int .u8 0, .int .u8 0, .int .u8 0, .int .u8 0, .int .u8 0, .int .u8 0, .int .u8 0, .int .u8 0, .int .u8 0, .int .u8 0, .int .u8 0, .int .u8 0, .int .u8 0, .int .u8 0, .int .u8 0, .int .u8 0, .int .u8 0, .int .u8 0, .int .u8 0, .int .u8 0, .int .u8 0, .int .u8 0, .int .u8 0, .int .u8 0, .int .u8 0, .string ⟨#[]⟩, .int .i64 0, .int .i64 0] 39)) := (Below.refl _ _).alloc (Nat.le_refl _) _
  clear h
  go_enter Tryz.func91, Tryz.ntmps91
  go_upto_region 1 with (fail)
  obtain ⟨R, hR⟩ : ∃ R, R = w.heap.size := ⟨_, rfl⟩
  rw [← hR] at hr ⊢
  generalize w.alloc (.cells #[.int .i64 0, .string ⟨#[]⟩, .string ⟨#[]⟩, .int .u8 0, .int .u8 0, .int .u8 0, .int .u8 0, .int .u8 0, .int .u8 0, .int .u8 0, .int .u8 0, .int .u8 0, .int .u8 0, .int .u8 0, .int .u8 0, .int .u8 0, .int .u8 0, .int .u8 0, .int .u8 0, .int .u8 0, .int .u8 0, .int .u8 0, .int .u8 0, .int .u8 0, .int .u8 0, .int .u8 0, .int .u8 0, .int .u8 0, .int .u8 0, .int .u8 0, .int .u8 0, .int .u8 0, .int .u8 0, .int .u8 0, .int .u8 0, .string ⟨#[]⟩, .int .i64 0, .int .i64 0] 39) = w1 at hr h1 F ⊢
  have HR := Lib.hid hR
  clear hR
  rw [zslip] at hr
  have T1 := Turns.of_below (B := B) F
  clear F
  have hRB : R ≠ B := by have := HR.out; omega
  go_wp2_with fail
  refine (take_any h1 1 hz (by decide)).mono ?_
  rintro e w2 ⟨rfl, A2, K2⟩
  rw [show tkR r 1 = q0 from hq0.symm] at A2
  have HQ0 := Lib.hid hq0
  clear hq0
  replace hr := hr.turns K2 hRB
  have T2 := T1.trans K2
  clear h1 T1 K2
  go_wp2_with fail
  refine (number_any (tkV r 1) _ (by have := tkV_size r 1; omega)).mono ?_
  rintro e vX ⟨rfl, rfl⟩
  rw [show IntKind.i64.wrap (bN (bl (tkV r 1)) : Int) = 2 from HK.out]
  have HRL := Lib.hid hr.lt
  obtain ⟨w3, S3, hy, G3, Z3⟩ := k_keep w2 2
  clear Z3
  replace hr := hr.old G3
  replace A2 := A2.old G3
  have hYn : w.heap.size ≤ w2.heap.size := T2.size
  have T3 := T2.trans (Turns.of_below G3)
  have hRY : R ≠ w2.heap.size := by
    have h5 := HRL.out
    omega
  go_upto_region 2 with (refine wpl_store S3 rfl rfl rfl rfl rfl ?_)
  clear S3 T2 G3
  generalize w2.heap.size = Y at hy hYn hRY ⊢
  have c0 : w3.cell? ⟨Y, 0, none⟩ = some (.int .i64 2) := hy.cell 0
  go_wp2_with fail
  refine (layout_any 2 _).mono ?_
  rintro e w4 ⟨rfl, G4⟩
  replace hr := hr.old G4
  replace A2 := A2.old G4
  replace hy := hy.old G4
  have T4 := T3.trans (Turns.of_below G4)
  clear T3 G4 c0
  obtain ⟨w5, S5, hl, G5, Z5⟩ := keep (P := Tryz.prog) (ty := 146) w4 #[.bool false, .bool false, .bool false, .bool false] (layV 2) 146 (by kernel_rfl) rfl (lay_one 2)
  clear Z5
  have O : RS w w5 B R Y w4.heap.size 2 ⟨2, none8, none8, zeros, none8, 0, 0⟩ q0 := ⟨A2.old G5, hr.old G5, hy.old G5, hl, T4.trans (Turns.of_below G5), by have := HR.out; have := hy.lt; have := A2.lt; omega⟩
  go_upto_region 3 with (refine wpl_store S5 rfl rfl rfl rfl rfl ?_)
  clear S5 G5 hl T4 hr A2 hy hYn hRY
  generalize w4.heap.size = L at O ⊢
  have y0 : w5.cell? ⟨L, 0, none⟩ = some (.bool true) := O.ly.cell 0
  have CC := rtext_any O.rd z0
  obtain ⟨q1, hq⟩ : ∃ q, q = txR q0 := ⟨_, rfl⟩
  obtain ⟨s1, hs⟩ : ∃ s, s = txV q0 := ⟨_, rfl⟩
  have z1 : q1.rest.size ≤ 1099511627776 := by rw [hq]; exact Nat.le_trans (txR_le q0) z0
  rw [← hq, ← hs] at CC
  have HQ1 := Lib.hid hq; have HS1 := Lib.hid hs
  clear hq hs
  go_wp2_with fail
  refine CC.mono ?_
  rintro e w6 ⟨rfl, A', K'⟩
  replace O := O.turns K' A'
  clear A' K' CC y0
  have f1 := O.sy.frozen 1
  have d1 : w6.cell? ⟨Y, 1, none⟩ = some (.string none8) := O.sy.cell 1
  go_upto_region 5 with (fail)
  have O2 := O.set 1 (.string s1) (set1 ⟨2, none8, none8, zeros, none8, 0, 0⟩ _)
  clear O f1 d1
  generalize w6.setCell ⟨Y, 1, none⟩ (.string s1) = w7 at O2 ⊢
  have O : RS w w7 B R Y L 2 ⟨2, s1, none8, zeros, none8, 0, 0⟩ (q1) := O2
  clear O2
  have CC := rtext_any O.rd z1
  obtain ⟨q2, hq⟩ : ∃ q, q = txR q1 := ⟨_, rfl⟩
  obtain ⟨s2, hs⟩ : ∃ s, s = txV q1 := ⟨_, rfl⟩
  have z2 : q2.rest.size ≤ 1099511627776 := by rw [hq]; exact Nat.le_trans (txR_le q1) z1
  rw [← hq, ← hs] at CC
  have HQ2 := Lib.hid hq; have HS2 := Lib.hid hs
  clear hq hs
  go_wp2_with fail
  refine CC.mono ?_
  rintro e w8 ⟨rfl, A', K'⟩
  replace O := O.turns K' A'
  clear A' K' CC 
  have f1 := O.sy.frozen 2
  have d1 : w8.cell? ⟨Y, 2, none⟩ = some (.string none8) := O.sy.cell 2
  go_upto_region 6 with (fail)
  have O2 := O.set 2 (.string s2) (set2 ⟨2, s1, none8, zeros, none8, 0, 0⟩ _)
  clear O f1 d1
  generalize w8.setCell ⟨Y, 2, none⟩ (.string s2) = w9 at O2 ⊢
  have O : RS w w9 B R Y L 2 ⟨2, s1, s2, zeros, none8, 0, 0⟩ (q2) := O2
  clear O2
  have ydl := zeros_dig.len
  have y1 : w9.cell? ⟨L, 1, none⟩ = some (.bool false) := O.ly.cell 1
  have y2 : w9.cell? ⟨L, 2, none⟩ = some (.bool false) := O.ly.cell 2
  have y3 : w9.cell? ⟨L, 3, none⟩ = some (.bool true) := O.ly.cell 3
  have CC := take_any O.rd 8 z2 (by decide)
  have hs8 := tkV_size q2 8
  obtain ⟨b2, hb8⟩ : ∃ b, b = nb q2 8 := ⟨_, rfl⟩
  obtain ⟨q3, hq⟩ : ∃ q, q = tkR q2 8 := ⟨_, rfl⟩
  obtain ⟨s3, hs⟩ : ∃ s, s = tkV q2 8 := ⟨_, rfl⟩
  have z3 : q3.rest.size ≤ 1099511627776 := by rw [hq]; exact Nat.le_trans (tkR_le q2 8) z2
  rw [← hq, ← hs] at CC
  have HQ3 := Lib.hid hq; have HS3 := Lib.hid hs
  clear hq hs
  rw [show nb q2 8 = IntKind.i64.wrap (bN (bl (tkV q2 8)) : Int) from rfl, ← HS3.out] at hb8
  rw [← HS3.out] at hs8
  go_wp2_with fail
  refine CC.mono ?_
  rintro e w10 ⟨rfl, A', K'⟩
  replace O := O.turns K' A'
  clear A' K' CC y1 y2 y3
  go_wp2_with fail
  refine (number_any s3 _ (by omega)).mono ?_
  rintro e vX ⟨rfl, rfl⟩
  rw [← hb8]
  have HB3 := Lib.hid hb8
  clear hb8 hs8
  have f1 := O.sy.frozen 37
  have d1 : w10.cell? ⟨Y, 37, none⟩ = some (.int .i64 0) := (O.sy.cell 37).trans (sl37 ydl)
  go_upto_region 13 with (fail)
  have O2 := O.set 37 (.int .i64 b2) (set37 (x := ⟨2, s1, s2, zeros, none8, 0, 0⟩) ydl _)
  clear O f1 d1
  generalize w10.setCell ⟨Y, 37, none⟩ (.int .i64 b2) = w11 at O2 ⊢
  have O : RS w w11 B R Y L 2 ⟨2, s1, s2, zeros, none8, 0, b2⟩ (q3) := O2
  clear O2
  have FF : rsX r = ⟨2, s1, s2, zeros, none8, 0, b2⟩ ∧ rsR r = q3 := by
    unfold rsX rsR rs4 rs3 rs2
    rw [HK.out]
    simp only [rT, rD, rM, rA, LT.out, LD.out, LM.out, LA.out, if_true, Bool.false_eq_true, if_false]
    simp only [HB3.out, HS3.out, HS2.out, HS1.out, HQ3.out, HQ2.out, HQ1.out, HQ0.out]
    first | exact ⟨rfl, rfl⟩ | exact ⟨rfl, trivial⟩ | exact ⟨trivial, rfl⟩ | trivial
  have fin := FF.1.symm
  have fir := FF.2.symm
  clear FF
  rw [fin, fir] at O
  have zd : (rsX r).dig.length = 32 := by rw [← fin]; exact ydl
  clear fin fir ydl
  have D1 := sl_loads O.sy zd
  have D2 := sl_stores O.rs zeros_dig.len zd
  have R1 := O.rs.row (slV (rsX r))
  have E1 := O.rd.rowOther (ds := slV (rsX r)) O.ne.2.2.2.2.2.2.2.2
  have U1 := turns_row (cs := slV (rsX r)) O.turn O.ne.2.2.2.2.2.2.2.1
  generalize w11.setRow R (slV (rsX r)) = w99 at D2 R1 E1 U1
  go_wp2_with (first | refine wpl_load D1 rfl rfl rfl ?_ | refine wpl_store D2 rfl rfl rfl rfl rfl ?_)
  exact bodyPost_ret (results_cell_row Tryz.results91 _ _ R 39 (slV (rsX r)) (0, 0) _ rfl R1.heap Tryz.underlying39 rfl (by rw [slV_size zd]; kernel_rfl)) rfl ⟨rfl, E1, U1⟩
set_option maxHeartbeats 4000000 in
theorem rslip_drop {w : World} {B : Nat} {r : Rd} (h : At w B 141 (rdV r)) (hk : nb r 1 = 3) (hz : r.rest.size ≤ 1099511627776) :
    Calls Tryz.prog 91 #[.pointer (some ⟨B, 0, none⟩)] w fun e w' => e = .returned (.agg (slV (rsX r))) ∧ At w' B 141 (rdV (rsR r)) ∧ Turns B w w' := by
  have lT : hT 3 = true := rfl
  have lD : hD 3 = false := rfl
  have lM : hM 3 = false := rfl
  have lA : hA 3 = false := rfl
  have LT := Lib.hid lT; have LD := Lib.hid lD; have LM := Lib.hid lM; have LA := Lib.hid lA
  clear lT lD lM lA
  have HK := Lib.hid hk
  clear hk
  obtain ⟨q0, hq0⟩ : ∃ q, q = rs1 r := ⟨_, rfl⟩
  have z0 : q0.rest.size ≤ 1099511627776 := by rw [hq0]; exact Nat.le_trans (tkR_le r 1) hz
  have hBw := h.lt
  have hr := At.new w 39 #[.int .i64 0, .string ⟨#[]⟩, .string ⟨#[]⟩, .int .u8 0, .int .u8 0, .int .u8 0, .int .u8 0, .int .u8 0, .int .u8 0, .int .u8 0, .int .u8 0, .int .u8 0, .int .u8 0, .int .u8 0, .int .u8 0, .int .u8 0, .int .u8 0, .int .u8 0, .int .u8 0, .int .u8 0, .int .u8 0, .int .u8 0, .int .u8 0, .int .u8 0, .int .u8 0, .int .u8 0, .int .u8 0, .int .u8 0, .int .u8 0, .int .u8 0, .int .u8 0, .int .u8 0, .int .u8 0, .int .u8 0, .int .u8 0, .string ⟨#[]⟩, .int .i64 0, .int .i64 0]
  have h1 := h.alloc (.cells #[.int .i64 0, .string ⟨#[]⟩, .string ⟨#[]⟩, .int .u8 0, .int .u8 0, .int .u8 0, .int .u8 0, .int .u8 0, .int .u8 0, .int .u8 0, .int .u8 0, .int .u8 0, .int .u8 0, .int .u8 0, .int .u8 0, .int .u8 0, .int .u8 0, .int .u8 0, .int .u8 0, .int .u8 0, .int .u8 0, .int .u8 0, .int .u8 0, .int .u8 0, .int .u8 0, .int .u8 0, .int .u8 0, .int .u8 0, .int .u8 0, .int .u8 0, .int .u8 0, .int .u8 0, .int .u8 0, .int .u8 0, .int .u8 0, .string ⟨#[]⟩, .int .i64 0, .int .i64 0] 39)
  have F : Below w.heap.size w (w.alloc (.cells #[.int .i64 0, .string ⟨#[]⟩, .string ⟨#[]⟩, .int .u8 0, .int .u8 0, .int .u8 0, .int .u8 0, .int .u8 0, .int .u8 0, .int .u8 0, .int .u8 0, .int .u8 0, .int .u8 0, .int .u8 0, .int .u8 0, .int .u8 0, .int .u8 0, .int .u8 0, .int .u8 0, .int .u8 0, .int .u8 0, .int .u8 0, .int .u8 0, .int .u8 0, .int .u8 0, .int .u8 0, .int .u8 0, .int .u8 0, .int .u8 0, .int .u8 0, .int .u8 0, .int .u8 0, .int .u8 0, .int .u8 0, .int .u8 0, .string ⟨#[]⟩, .int .i64 0, .int .i64 0] 39)) := (Below.refl _ _).alloc (Nat.le_refl _) _
  clear h
  go_enter Tryz.func91, Tryz.ntmps91
  go_upto_region 1 with (fail)
  obtain ⟨R, hR⟩ : ∃ R, R = w.heap.size := ⟨_, rfl⟩
  rw [← hR] at hr ⊢
  generalize w.alloc (.cells #[.int .i64 0, .string ⟨#[]⟩, .string ⟨#[]⟩, .int .u8 0, .int .u8 0, .int .u8 0, .int .u8 0, .int .u8 0, .int .u8 0, .int .u8 0, .int .u8 0, .int .u8 0, .int .u8 0, .int .u8 0, .int .u8 0, .int .u8 0, .int .u8 0, .int .u8 0, .int .u8 0, .int .u8 0, .int .u8 0, .int .u8 0, .int .u8 0, .int .u8 0, .int .u8 0, .int .u8 0, .int .u8 0, .int .u8 0, .int .u8 0, .int .u8 0, .int .u8 0, .int .u8 0, .int .u8 0, .int .u8 0, .int .u8 0, .string ⟨#[]⟩, .int .i64 0, .int .i64 0] 39) = w1 at hr h1 F ⊢
  have HR := Lib.hid hR
  clear hR
  rw [zslip] at hr
  have T1 := Turns.of_below (B := B) F
  clear F
  have hRB : R ≠ B := by have := HR.out; omega
  go_wp2_with fail
  refine (take_any h1 1 hz (by decide)).mono ?_
  rintro e w2 ⟨rfl, A2, K2⟩
  rw [show tkR r 1 = q0 from hq0.symm] at A2
  have HQ0 := Lib.hid hq0
  clear hq0
  replace hr := hr.turns K2 hRB
  have T2 := T1.trans K2
  clear h1 T1 K2
  go_wp2_with fail
  refine (number_any (tkV r 1) _ (by have := tkV_size r 1; omega)).mono ?_
  rintro e vX ⟨rfl, rfl⟩
  rw [show IntKind.i64.wrap (bN (bl (tkV r 1)) : Int) = 3 from HK.out]
  have HRL := Lib.hid hr.lt
  obtain ⟨w3, S3, hy, G3, Z3⟩ := k_keep w2 3
  clear Z3
  replace hr := hr.old G3
  replace A2 := A2.old G3
  have hYn : w.heap.size ≤ w2.heap.size := T2.size
  have T3 := T2.trans (Turns.of_below G3)
  have hRY : R ≠ w2.heap.size := by
    have h5 := HRL.out
    omega
  go_upto_region 2 with (refine wpl_store S3 rfl rfl rfl rfl rfl ?_)
  clear S3 T2 G3
  generalize w2.heap.size = Y at hy hYn hRY ⊢
  have c0 : w3.cell? ⟨Y, 0, none⟩ = some (.int .i64 3) := hy.cell 0
  go_wp2_with fail
  refine (layout_any 3 _).mono ?_
  rintro e w4 ⟨rfl, G4⟩
  replace hr := hr.old G4
  replace A2 := A2.old G4
  replace hy := hy.old G4
  have T4 := T3.trans (Turns.of_below G4)
  clear T3 G4 c0
  obtain ⟨w5, S5, hl, G5, Z5⟩ := keep (P := Tryz.prog) (ty := 146) w4 #[.bool false, .bool false, .bool false, .bool false] (layV 3) 146 (by kernel_rfl) rfl (lay_one 3)
  clear Z5
  have O : RS w w5 B R Y w4.heap.size 3 ⟨3, none8, none8, zeros, none8, 0, 0⟩ q0 := ⟨A2.old G5, hr.old G5, hy.old G5, hl, T4.trans (Turns.of_below G5), by have := HR.out; have := hy.lt; have := A2.lt; omega⟩
  go_upto_region 3 with (refine wpl_store S5 rfl rfl rfl rfl rfl ?_)
  clear S5 G5 hl T4 hr A2 hy hYn hRY
  generalize w4.heap.size = L at O ⊢
  have y0 : w5.cell? ⟨L, 0, none⟩ = some (.bool true) := O.ly.cell 0
  have CC := rtext_any O.rd z0
  obtain ⟨q1, hq⟩ : ∃ q, q = txR q0 := ⟨_, rfl⟩
  obtain ⟨s1, hs⟩ : ∃ s, s = txV q0 := ⟨_, rfl⟩
  have z1 : q1.rest.size ≤ 1099511627776 := by rw [hq]; exact Nat.le_trans (txR_le q0) z0
  rw [← hq, ← hs] at CC
  have HQ1 := Lib.hid hq; have HS1 := Lib.hid hs
  clear hq hs
  go_wp2_with fail
  refine CC.mono ?_
  rintro e w6 ⟨rfl, A', K'⟩
  replace O := O.turns K' A'
  clear A' K' CC y0
  have f1 := O.sy.frozen 1
  have d1 : w6.cell? ⟨Y, 1, none⟩ = some (.string none8) := O.sy.cell 1
  go_upto_region 5 with (fail)
  have O2 := O.set 1 (.string s1) (set1 ⟨3, none8, none8, zeros, none8, 0, 0⟩ _)
  clear O f1 d1
  generalize w6.setCell ⟨Y, 1, none⟩ (.string s1) = w7 at O2 ⊢
  have O : RS w w7 B R Y L 3 ⟨3, s1, none8, zeros, none8, 0, 0⟩ (q1) := O2
  clear O2
  have CC := rtext_any O.rd z1
  obtain ⟨q2, hq⟩ : ∃ q, q = txR q1 := ⟨_, rfl⟩
  obtain ⟨s2, hs⟩ : ∃ s, s = txV q1 := ⟨_, rfl⟩
  have z2 : q2.rest.size ≤ 1099511627776 := by rw [hq]; exact Nat.le_trans (txR_le q1) z1
  rw [← hq, ← hs] at CC
  have HQ2 := Lib.hid hq; have HS2 := Lib.hid hs
  clear hq hs
  go_wp2_with fail
  refine CC.mono ?_
  rintro e w8 ⟨rfl, A', K'⟩
  replace O := O.turns K' A'
  clear A' K' CC 
  have f1 := O.sy.frozen 2
  have d1 : w8.cell? ⟨Y, 2, none⟩ = some (.string none8) := O.sy.cell 2
  go_upto_region 6 with (fail)
  have O2 := O.set 2 (.string s2) (set2 ⟨3, s1, none8, zeros, none8, 0, 0⟩ _)
  clear O f1 d1
  generalize w8.setCell ⟨Y, 2, none⟩ (.string s2) = w9 at O2 ⊢
  have O : RS w w9 B R Y L 3 ⟨3, s1, s2, zeros, none8, 0, 0⟩ (q2) := O2
  clear O2
  have ydl := zeros_dig.len
  have y1 : w9.cell? ⟨L, 1, none⟩ = some (.bool false) := O.ly.cell 1
  have y2 : w9.cell? ⟨L, 2, none⟩ = some (.bool false) := O.ly.cell 2
  have y3 : w9.cell? ⟨L, 3, none⟩ = some (.bool false) := O.ly.cell 3
  have FF : rsX r = ⟨3, s1, s2, zeros, none8, 0, 0⟩ ∧ rsR r = q2 := by
    unfold rsX rsR rs4 rs3 rs2
    rw [HK.out]
    simp only [rT, rD, rM, rA, LT.out, LD.out, LM.out, LA.out, if_true, Bool.false_eq_true, if_false]
    simp only [HS2.out, HS1.out, HQ2.out, HQ1.out, HQ0.out]
    first | exact ⟨rfl, rfl⟩ | exact ⟨rfl, trivial⟩ | exact ⟨trivial, rfl⟩ | trivial
  have fin := FF.1.symm
  have fir := FF.2.symm
  clear FF
  rw [fin, fir] at O
  have zd : (rsX r).dig.length = 32 := by rw [← fin]; exact ydl
  clear fin fir ydl
  have D1 := sl_loads O.sy zd
  have D2 := sl_stores O.rs zeros_dig.len zd
  have R1 := O.rs.row (slV (rsX r))
  have E1 := O.rd.rowOther (ds := slV (rsX r)) O.ne.2.2.2.2.2.2.2.2
  have U1 := turns_row (cs := slV (rsX r)) O.turn O.ne.2.2.2.2.2.2.2.1
  generalize w9.setRow R (slV (rsX r)) = w99 at D2 R1 E1 U1
  go_wp2_with (first | refine wpl_load D1 rfl rfl rfl ?_ | refine wpl_store D2 rfl rfl rfl rfl rfl ?_)
  exact bodyPost_ret (results_cell_row Tryz.results91 _ _ R 39 (slV (rsX r)) (0, 0) _ rfl R1.heap Tryz.underlying39 rfl (by rw [slV_size zd]; kernel_rfl)) rfl ⟨rfl, E1, U1⟩
set_option maxHeartbeats 4000000 in
theorem rslip_blob {w : World} {B : Nat} {r : Rd} (h : At w B 141 (rdV r)) (hk : nb r 1 = 4) (hz : r.rest.size ≤ 1099511627776) :
    Calls Tryz.prog 91 #[.pointer (some ⟨B, 0, none⟩)] w fun e w' => e = .returned (.agg (slV (rsX r))) ∧ At w' B 141 (rdV (rsR r)) ∧ Turns B w w' := by
  have lT : hT 4 = false := rfl
  have lD : hD 4 = true := rfl
  have lM : hM 4 = true := rfl
  have lA : hA 4 = false := rfl
  have LT := Lib.hid lT; have LD := Lib.hid lD; have LM := Lib.hid lM; have LA := Lib.hid lA
  clear lT lD lM lA
  have HK := Lib.hid hk
  clear hk
  obtain ⟨q0, hq0⟩ : ∃ q, q = rs1 r := ⟨_, rfl⟩
  have z0 : q0.rest.size ≤ 1099511627776 := by rw [hq0]; exact Nat.le_trans (tkR_le r 1) hz
  have hBw := h.lt
  have hr := At.new w 39 #[.int .i64 0, .string ⟨#[]⟩, .string ⟨#[]⟩, .int .u8 0, .int .u8 0, .int .u8 0, .int .u8 0, .int .u8 0, .int .u8 0, .int .u8 0, .int .u8 0, .int .u8 0, .int .u8 0, .int .u8 0, .int .u8 0, .int .u8 0, .int .u8 0, .int .u8 0, .int .u8 0, .int .u8 0, .int .u8 0, .int .u8 0, .int .u8 0, .int .u8 0, .int .u8 0, .int .u8 0, .int .u8 0, .int .u8 0, .int .u8 0, .int .u8 0, .int .u8 0, .int .u8 0, .int .u8 0, .int .u8 0, .int .u8 0, .string ⟨#[]⟩, .int .i64 0, .int .i64 0]
  have h1 := h.alloc (.cells #[.int .i64 0, .string ⟨#[]⟩, .string ⟨#[]⟩, .int .u8 0, .int .u8 0, .int .u8 0, .int .u8 0, .int .u8 0, .int .u8 0, .int .u8 0, .int .u8 0, .int .u8 0, .int .u8 0, .int .u8 0, .int .u8 0, .int .u8 0, .int .u8 0, .int .u8 0, .int .u8 0, .int .u8 0, .int .u8 0, .int .u8 0, .int .u8 0, .int .u8 0, .int .u8 0, .int .u8 0, .int .u8 0, .int .u8 0, .int .u8 0, .int .u8 0, .int .u8 0, .int .u8 0, .int .u8 0, .int .u8 0, .int .u8 0, .string ⟨#[]⟩, .int .i64 0, .int .i64 0] 39)
  have F : Below w.heap.size w (w.alloc (.cells #[.int .i64 0, .string ⟨#[]⟩, .string ⟨#[]⟩, .int .u8 0, .int .u8 0, .int .u8 0, .int .u8 0, .int .u8 0, .int .u8 0, .int .u8 0, .int .u8 0, .int .u8 0, .int .u8 0, .int .u8 0, .int .u8 0, .int .u8 0, .int .u8 0, .int .u8 0, .int .u8 0, .int .u8 0, .int .u8 0, .int .u8 0, .int .u8 0, .int .u8 0, .int .u8 0, .int .u8 0, .int .u8 0, .int .u8 0, .int .u8 0, .int .u8 0, .int .u8 0, .int .u8 0, .int .u8 0, .int .u8 0, .int .u8 0, .string ⟨#[]⟩, .int .i64 0, .int .i64 0] 39)) := (Below.refl _ _).alloc (Nat.le_refl _) _
  clear h
  go_enter Tryz.func91, Tryz.ntmps91
  go_upto_region 1 with (fail)
  obtain ⟨R, hR⟩ : ∃ R, R = w.heap.size := ⟨_, rfl⟩
  rw [← hR] at hr ⊢
  generalize w.alloc (.cells #[.int .i64 0, .string ⟨#[]⟩, .string ⟨#[]⟩, .int .u8 0, .int .u8 0, .int .u8 0, .int .u8 0, .int .u8 0, .int .u8 0, .int .u8 0, .int .u8 0, .int .u8 0, .int .u8 0, .int .u8 0, .int .u8 0, .int .u8 0, .int .u8 0, .int .u8 0, .int .u8 0, .int .u8 0, .int .u8 0, .int .u8 0, .int .u8 0, .int .u8 0, .int .u8 0, .int .u8 0, .int .u8 0, .int .u8 0, .int .u8 0, .int .u8 0, .int .u8 0, .int .u8 0, .int .u8 0, .int .u8 0, .int .u8 0, .string ⟨#[]⟩, .int .i64 0, .int .i64 0] 39) = w1 at hr h1 F ⊢
  have HR := Lib.hid hR
  clear hR
  rw [zslip] at hr
  have T1 := Turns.of_below (B := B) F
  clear F
  have hRB : R ≠ B := by have := HR.out; omega
  go_wp2_with fail
  refine (take_any h1 1 hz (by decide)).mono ?_
  rintro e w2 ⟨rfl, A2, K2⟩
  rw [show tkR r 1 = q0 from hq0.symm] at A2
  have HQ0 := Lib.hid hq0
  clear hq0
  replace hr := hr.turns K2 hRB
  have T2 := T1.trans K2
  clear h1 T1 K2
  go_wp2_with fail
  refine (number_any (tkV r 1) _ (by have := tkV_size r 1; omega)).mono ?_
  rintro e vX ⟨rfl, rfl⟩
  rw [show IntKind.i64.wrap (bN (bl (tkV r 1)) : Int) = 4 from HK.out]
  have HRL := Lib.hid hr.lt
  obtain ⟨w3, S3, hy, G3, Z3⟩ := k_keep w2 4
  clear Z3
  replace hr := hr.old G3
  replace A2 := A2.old G3
  have hYn : w.heap.size ≤ w2.heap.size := T2.size
  have T3 := T2.trans (Turns.of_below G3)
  have hRY : R ≠ w2.heap.size := by
    have h5 := HRL.out
    omega
  go_upto_region 2 with (refine wpl_store S3 rfl rfl rfl rfl rfl ?_)
  clear S3 T2 G3
  generalize w2.heap.size = Y at hy hYn hRY ⊢
  have c0 : w3.cell? ⟨Y, 0, none⟩ = some (.int .i64 4) := hy.cell 0
  go_wp2_with fail
  refine (layout_any 4 _).mono ?_
  rintro e w4 ⟨rfl, G4⟩
  replace hr := hr.old G4
  replace A2 := A2.old G4
  replace hy := hy.old G4
  have T4 := T3.trans (Turns.of_below G4)
  clear T3 G4 c0
  obtain ⟨w5, S5, hl, G5, Z5⟩ := keep (P := Tryz.prog) (ty := 146) w4 #[.bool false, .bool false, .bool false, .bool false] (layV 4) 146 (by kernel_rfl) rfl (lay_one 4)
  clear Z5
  have O : RS w w5 B R Y w4.heap.size 4 ⟨4, none8, none8, zeros, none8, 0, 0⟩ q0 := ⟨A2.old G5, hr.old G5, hy.old G5, hl, T4.trans (Turns.of_below G5), by have := HR.out; have := hy.lt; have := A2.lt; omega⟩
  go_upto_region 3 with (refine wpl_store S5 rfl rfl rfl rfl rfl ?_)
  clear S5 G5 hl T4 hr A2 hy hYn hRY
  generalize w4.heap.size = L at O ⊢
  have ydl := zeros_dig.len
  have y0 : w5.cell? ⟨L, 0, none⟩ = some (.bool false) := O.ly.cell 0
  have y1 : w5.cell? ⟨L, 1, none⟩ = some (.bool true) := O.ly.cell 1
  go_upto_region 7 with (fail)
  clear y0 y1
  refine wp_region_held (S := fun _ => True) (by kernel_rfl) ?_
  change wpAnyH _ _ _ _ _ _ _ _ w5.drew
  replace O := O.drew
  generalize w5.drew = wd at O ⊢
  have CC := take_any O.rd 32 z0 (by decide)
  have ht32 := tk32 q0
  obtain ⟨q1, hq⟩ : ∃ q, q = tkR q0 32 := ⟨_, rfl⟩
  obtain ⟨s1, hs⟩ : ∃ s, s = tkV q0 32 := ⟨_, rfl⟩
  have z1 : q1.rest.size ≤ 1099511627776 := by rw [hq]; exact Nat.le_trans (tkR_le q0 32) z0
  rw [← hq, ← hs] at CC
  have HQ1 := Lib.hid hq; have HS1 := Lib.hid hs
  clear hq hs
  rw [← HS1.out] at ht32
  have HT32 := Lib.hid ht32
  clear ht32
  refine held_take 0 (.pointer (some ⟨Y, 3, none⟩)) rfl (by kernel_rfl) (by kernel_rfl) (by kernel_rfl) (fun _ _ _ h => h) (Or.inl ⟨by rfl, fun x j => by go_simp⟩) trivial (fun K hK => ?_)
  go_simp
  refine hK _ _ ?_
  clear hK K
  refine held_take 1 (.slice (some ⟨Y, 3, none⟩) 32 32) rfl (by kernel_rfl) (by kernel_rfl) (by kernel_rfl) (fun _ _ _ h => h) (Or.inl ⟨by rfl, fun x j => by go_simp⟩) trivial (fun K hK => ?_)
  go_simp
  refine hK _ _ ?_
  clear hK K
  refine held_take 2 (.pointer (some ⟨B, 0, none⟩)) rfl (by kernel_rfl) (by kernel_rfl) (by kernel_rfl) (fun _ _ _ h => h) (Or.inl ⟨by rfl, fun x j => by go_simp⟩) trivial (fun K hK => ?_)
  go_simp
  refine hK _ _ ?_
  clear hK K
  refine held_one 3 (by kernel_rfl) (fun K hK => wpOp_in rfl rfl ?_)
  go_simp
  refine CC.mono ?_
  rintro e wa ⟨rfl, A', K'⟩
  replace O := O.turns K' A'
  clear A' K' CC
  refine hK _ _ trivial ?_
  clear hK K
  refine held_one 4 (by kernel_rfl) (fun K hK => wpOp_in rfl rfl ?_)
  obtain ⟨X, hX, hX2⟩ := copy_dig O.sy rfl s1 HT32.out 0
  refine wp_copy (fun ty => copy_ty hX ty) rfl rfl rfl ?_
  go_simp
  refine hK _ _ trivial ?_
  clear hK K
  refine wpAnyH_done (by kernel_rfl) ?_ _
  have O2 := O.copied rfl hX2
  clear O hX hX2
  generalize X = w6 at O2 ⊢
  have O : RS w w6 B R Y L 4 ⟨4, none8, none8, dgV s1, none8, 0, 0⟩ (q1) := O2
  clear O2 ydl
  have ydl := (dgV_dig s1).len
  have y2 : w6.cell? ⟨L, 2, none⟩ = some (.bool true) := O.ly.cell 2
  have CC := rtext_any O.rd z1
  obtain ⟨q2, hq⟩ : ∃ q, q = txR q1 := ⟨_, rfl⟩
  obtain ⟨s2, hs⟩ : ∃ s, s = txV q1 := ⟨_, rfl⟩
  have z2 : q2.rest.size ≤ 1099511627776 := by rw [hq]; exact Nat.le_trans (txR_le q1) z1
  rw [← hq, ← hs] at CC
  have HQ2 := Lib.hid hq; have HS2 := Lib.hid hs
  clear hq hs
  go_wp2_with fail
  refine CC.mono ?_
  rintro e w7 ⟨rfl, A', K'⟩
  replace O := O.turns K' A'
  clear A' K' CC y2
  have f1 := O.sy.frozen 35
  have d1 : w7.cell? ⟨Y, 35, none⟩ = some (.string none8) := (O.sy.cell 35).trans (sl35 ydl)
  go_upto_region 10 with (fail)
  have O2 := O.set 35 (.string s2) (set35 (x := ⟨4, none8, none8, dgV s1, none8, 0, 0⟩) ydl _)
  clear O f1 d1
  generalize w7.setCell ⟨Y, 35, none⟩ (.string s2) = w8 at O2 ⊢
  have O : RS w w8 B R Y L 4 ⟨4, none8, none8, dgV s1, s2, 0, 0⟩ (q2) := O2
  clear O2
  have CC := take_any O.rd 8 z2 (by decide)
  have hs8 := tkV_size q2 8
  obtain ⟨b2, hb8⟩ : ∃ b, b = nb q2 8 := ⟨_, rfl⟩
  obtain ⟨q3, hq⟩ : ∃ q, q = tkR q2 8 := ⟨_, rfl⟩
  obtain ⟨s3, hs⟩ : ∃ s, s = tkV q2 8 := ⟨_, rfl⟩
  have z3 : q3.rest.size ≤ 1099511627776 := by rw [hq]; exact Nat.le_trans (tkR_le q2 8) z2
  rw [← hq, ← hs] at CC
  have HQ3 := Lib.hid hq; have HS3 := Lib.hid hs
  clear hq hs
  rw [show nb q2 8 = IntKind.i64.wrap (bN (bl (tkV q2 8)) : Int) from rfl, ← HS3.out] at hb8
  rw [← HS3.out] at hs8
  go_wp2_with fail
  refine CC.mono ?_
  rintro e w9 ⟨rfl, A', K'⟩
  replace O := O.turns K' A'
  clear A' K' CC 
  go_wp2_with fail
  refine (number_any s3 _ (by omega)).mono ?_
  rintro e vX ⟨rfl, rfl⟩
  rw [← hb8]
  have HB3 := Lib.hid hb8
  clear hb8 hs8
  have f1 := O.sy.frozen 36
  have d1 : w9.cell? ⟨Y, 36, none⟩ = some (.int .i64 0) := (O.sy.cell 36).trans (sl36 ydl)
  go_upto_region 11 with (fail)
  have O2 := O.set 36 (.int .i64 b2) (set36 (x := ⟨4, none8, none8, dgV s1, s2, 0, 0⟩) ydl _)
  clear O f1 d1
  generalize w9.setCell ⟨Y, 36, none⟩ (.int .i64 b2) = w10 at O2 ⊢
  have O : RS w w10 B R Y L 4 ⟨4, none8, none8, dgV s1, s2, b2, 0⟩ (q3) := O2
  clear O2
  have y3 : w10.cell? ⟨L, 3, none⟩ = some (.bool false) := O.ly.cell 3
  have FF : rsX r = ⟨4, none8, none8, dgV s1, s2, b2, 0⟩ ∧ rsR r = q3 := by
    unfold rsX rsR rs4 rs3 rs2
    rw [HK.out]
    simp only [rT, rD, rM, rA, LT.out, LD.out, LM.out, LA.out, if_true, Bool.false_eq_true, if_false]
    simp only [HB3.out, HS3.out, HS2.out, HS1.out, HQ3.out, HQ2.out, HQ1.out, HQ0.out]
    first | exact ⟨rfl, rfl⟩ | exact ⟨rfl, trivial⟩ | exact ⟨trivial, rfl⟩ | trivial
  have fin := FF.1.symm
  have fir := FF.2.symm
  clear FF
  rw [fin, fir] at O
  have zd : (rsX r).dig.length = 32 := by rw [← fin]; exact ydl
  clear fin fir ydl
  have D1 := sl_loads O.sy zd
  have D2 := sl_stores O.rs zeros_dig.len zd
  have R1 := O.rs.row (slV (rsX r))
  have E1 := O.rd.rowOther (ds := slV (rsX r)) O.ne.2.2.2.2.2.2.2.2
  have U1 := turns_row (cs := slV (rsX r)) O.turn O.ne.2.2.2.2.2.2.2.1
  generalize w10.setRow R (slV (rsX r)) = w99 at D2 R1 E1 U1
  go_wp2_with (first | refine wpl_load D1 rfl rfl rfl ?_ | refine wpl_store D2 rfl rfl rfl rfl rfl ?_)
  exact bodyPost_ret (results_cell_row Tryz.results91 _ _ R 39 (slV (rsX r)) (0, 0) _ rfl R1.heap Tryz.underlying39 rfl (by rw [slV_size zd]; kernel_rfl)) rfl ⟨rfl, E1, U1⟩
set_option maxHeartbeats 4000000 in
theorem rslip_gone {w : World} {B : Nat} {r : Rd} (h : At w B 141 (rdV r)) (hk : nb r 1 = 5) (hz : r.rest.size ≤ 1099511627776) :
    Calls Tryz.prog 91 #[.pointer (some ⟨B, 0, none⟩)] w fun e w' => e = .returned (.agg (slV (rsX r))) ∧ At w' B 141 (rdV (rsR r)) ∧ Turns B w w' := by
  have lT : hT 5 = false := rfl
  have lD : hD 5 = true := rfl
  have lM : hM 5 = false := rfl
  have lA : hA 5 = false := rfl
  have LT := Lib.hid lT; have LD := Lib.hid lD; have LM := Lib.hid lM; have LA := Lib.hid lA
  clear lT lD lM lA
  have HK := Lib.hid hk
  clear hk
  obtain ⟨q0, hq0⟩ : ∃ q, q = rs1 r := ⟨_, rfl⟩
  have z0 : q0.rest.size ≤ 1099511627776 := by rw [hq0]; exact Nat.le_trans (tkR_le r 1) hz
  have hBw := h.lt
  have hr := At.new w 39 #[.int .i64 0, .string ⟨#[]⟩, .string ⟨#[]⟩, .int .u8 0, .int .u8 0, .int .u8 0, .int .u8 0, .int .u8 0, .int .u8 0, .int .u8 0, .int .u8 0, .int .u8 0, .int .u8 0, .int .u8 0, .int .u8 0, .int .u8 0, .int .u8 0, .int .u8 0, .int .u8 0, .int .u8 0, .int .u8 0, .int .u8 0, .int .u8 0, .int .u8 0, .int .u8 0, .int .u8 0, .int .u8 0, .int .u8 0, .int .u8 0, .int .u8 0, .int .u8 0, .int .u8 0, .int .u8 0, .int .u8 0, .int .u8 0, .string ⟨#[]⟩, .int .i64 0, .int .i64 0]
  have h1 := h.alloc (.cells #[.int .i64 0, .string ⟨#[]⟩, .string ⟨#[]⟩, .int .u8 0, .int .u8 0, .int .u8 0, .int .u8 0, .int .u8 0, .int .u8 0, .int .u8 0, .int .u8 0, .int .u8 0, .int .u8 0, .int .u8 0, .int .u8 0, .int .u8 0, .int .u8 0, .int .u8 0, .int .u8 0, .int .u8 0, .int .u8 0, .int .u8 0, .int .u8 0, .int .u8 0, .int .u8 0, .int .u8 0, .int .u8 0, .int .u8 0, .int .u8 0, .int .u8 0, .int .u8 0, .int .u8 0, .int .u8 0, .int .u8 0, .int .u8 0, .string ⟨#[]⟩, .int .i64 0, .int .i64 0] 39)
  have F : Below w.heap.size w (w.alloc (.cells #[.int .i64 0, .string ⟨#[]⟩, .string ⟨#[]⟩, .int .u8 0, .int .u8 0, .int .u8 0, .int .u8 0, .int .u8 0, .int .u8 0, .int .u8 0, .int .u8 0, .int .u8 0, .int .u8 0, .int .u8 0, .int .u8 0, .int .u8 0, .int .u8 0, .int .u8 0, .int .u8 0, .int .u8 0, .int .u8 0, .int .u8 0, .int .u8 0, .int .u8 0, .int .u8 0, .int .u8 0, .int .u8 0, .int .u8 0, .int .u8 0, .int .u8 0, .int .u8 0, .int .u8 0, .int .u8 0, .int .u8 0, .int .u8 0, .string ⟨#[]⟩, .int .i64 0, .int .i64 0] 39)) := (Below.refl _ _).alloc (Nat.le_refl _) _
  clear h
  go_enter Tryz.func91, Tryz.ntmps91
  go_upto_region 1 with (fail)
  obtain ⟨R, hR⟩ : ∃ R, R = w.heap.size := ⟨_, rfl⟩
  rw [← hR] at hr ⊢
  generalize w.alloc (.cells #[.int .i64 0, .string ⟨#[]⟩, .string ⟨#[]⟩, .int .u8 0, .int .u8 0, .int .u8 0, .int .u8 0, .int .u8 0, .int .u8 0, .int .u8 0, .int .u8 0, .int .u8 0, .int .u8 0, .int .u8 0, .int .u8 0, .int .u8 0, .int .u8 0, .int .u8 0, .int .u8 0, .int .u8 0, .int .u8 0, .int .u8 0, .int .u8 0, .int .u8 0, .int .u8 0, .int .u8 0, .int .u8 0, .int .u8 0, .int .u8 0, .int .u8 0, .int .u8 0, .int .u8 0, .int .u8 0, .int .u8 0, .int .u8 0, .string ⟨#[]⟩, .int .i64 0, .int .i64 0] 39) = w1 at hr h1 F ⊢
  have HR := Lib.hid hR
  clear hR
  rw [zslip] at hr
  have T1 := Turns.of_below (B := B) F
  clear F
  have hRB : R ≠ B := by have := HR.out; omega
  go_wp2_with fail
  refine (take_any h1 1 hz (by decide)).mono ?_
  rintro e w2 ⟨rfl, A2, K2⟩
  rw [show tkR r 1 = q0 from hq0.symm] at A2
  have HQ0 := Lib.hid hq0
  clear hq0
  replace hr := hr.turns K2 hRB
  have T2 := T1.trans K2
  clear h1 T1 K2
  go_wp2_with fail
  refine (number_any (tkV r 1) _ (by have := tkV_size r 1; omega)).mono ?_
  rintro e vX ⟨rfl, rfl⟩
  rw [show IntKind.i64.wrap (bN (bl (tkV r 1)) : Int) = 5 from HK.out]
  have HRL := Lib.hid hr.lt
  obtain ⟨w3, S3, hy, G3, Z3⟩ := k_keep w2 5
  clear Z3
  replace hr := hr.old G3
  replace A2 := A2.old G3
  have hYn : w.heap.size ≤ w2.heap.size := T2.size
  have T3 := T2.trans (Turns.of_below G3)
  have hRY : R ≠ w2.heap.size := by
    have h5 := HRL.out
    omega
  go_upto_region 2 with (refine wpl_store S3 rfl rfl rfl rfl rfl ?_)
  clear S3 T2 G3
  generalize w2.heap.size = Y at hy hYn hRY ⊢
  have c0 : w3.cell? ⟨Y, 0, none⟩ = some (.int .i64 5) := hy.cell 0
  go_wp2_with fail
  refine (layout_any 5 _).mono ?_
  rintro e w4 ⟨rfl, G4⟩
  replace hr := hr.old G4
  replace A2 := A2.old G4
  replace hy := hy.old G4
  have T4 := T3.trans (Turns.of_below G4)
  clear T3 G4 c0
  obtain ⟨w5, S5, hl, G5, Z5⟩ := keep (P := Tryz.prog) (ty := 146) w4 #[.bool false, .bool false, .bool false, .bool false] (layV 5) 146 (by kernel_rfl) rfl (lay_one 5)
  clear Z5
  have O : RS w w5 B R Y w4.heap.size 5 ⟨5, none8, none8, zeros, none8, 0, 0⟩ q0 := ⟨A2.old G5, hr.old G5, hy.old G5, hl, T4.trans (Turns.of_below G5), by have := HR.out; have := hy.lt; have := A2.lt; omega⟩
  go_upto_region 3 with (refine wpl_store S5 rfl rfl rfl rfl rfl ?_)
  clear S5 G5 hl T4 hr A2 hy hYn hRY
  generalize w4.heap.size = L at O ⊢
  have ydl := zeros_dig.len
  have y0 : w5.cell? ⟨L, 0, none⟩ = some (.bool false) := O.ly.cell 0
  have y1 : w5.cell? ⟨L, 1, none⟩ = some (.bool true) := O.ly.cell 1
  go_upto_region 7 with (fail)
  clear y0 y1
  refine wp_region_held (S := fun _ => True) (by kernel_rfl) ?_
  change wpAnyH _ _ _ _ _ _ _ _ w5.drew
  replace O := O.drew
  generalize w5.drew = wd at O ⊢
  have CC := take_any O.rd 32 z0 (by decide)
  have ht32 := tk32 q0
  obtain ⟨q1, hq⟩ : ∃ q, q = tkR q0 32 := ⟨_, rfl⟩
  obtain ⟨s1, hs⟩ : ∃ s, s = tkV q0 32 := ⟨_, rfl⟩
  have z1 : q1.rest.size ≤ 1099511627776 := by rw [hq]; exact Nat.le_trans (tkR_le q0 32) z0
  rw [← hq, ← hs] at CC
  have HQ1 := Lib.hid hq; have HS1 := Lib.hid hs
  clear hq hs
  rw [← HS1.out] at ht32
  have HT32 := Lib.hid ht32
  clear ht32
  refine held_take 0 (.pointer (some ⟨Y, 3, none⟩)) rfl (by kernel_rfl) (by kernel_rfl) (by kernel_rfl) (fun _ _ _ h => h) (Or.inl ⟨by rfl, fun x j => by go_simp⟩) trivial (fun K hK => ?_)
  go_simp
  refine hK _ _ ?_
  clear hK K
  refine held_take 1 (.slice (some ⟨Y, 3, none⟩) 32 32) rfl (by kernel_rfl) (by kernel_rfl) (by kernel_rfl) (fun _ _ _ h => h) (Or.inl ⟨by rfl, fun x j => by go_simp⟩) trivial (fun K hK => ?_)
  go_simp
  refine hK _ _ ?_
  clear hK K
  refine held_take 2 (.pointer (some ⟨B, 0, none⟩)) rfl (by kernel_rfl) (by kernel_rfl) (by kernel_rfl) (fun _ _ _ h => h) (Or.inl ⟨by rfl, fun x j => by go_simp⟩) trivial (fun K hK => ?_)
  go_simp
  refine hK _ _ ?_
  clear hK K
  refine held_one 3 (by kernel_rfl) (fun K hK => wpOp_in rfl rfl ?_)
  go_simp
  refine CC.mono ?_
  rintro e wa ⟨rfl, A', K'⟩
  replace O := O.turns K' A'
  clear A' K' CC
  refine hK _ _ trivial ?_
  clear hK K
  refine held_one 4 (by kernel_rfl) (fun K hK => wpOp_in rfl rfl ?_)
  obtain ⟨X, hX, hX2⟩ := copy_dig O.sy rfl s1 HT32.out 0
  refine wp_copy (fun ty => copy_ty hX ty) rfl rfl rfl ?_
  go_simp
  refine hK _ _ trivial ?_
  clear hK K
  refine wpAnyH_done (by kernel_rfl) ?_ _
  have O2 := O.copied rfl hX2
  clear O hX hX2
  generalize X = w6 at O2 ⊢
  have O : RS w w6 B R Y L 5 ⟨5, none8, none8, dgV s1, none8, 0, 0⟩ (q1) := O2
  clear O2 ydl
  have ydl := (dgV_dig s1).len
  have y2 : w6.cell? ⟨L, 2, none⟩ = some (.bool false) := O.ly.cell 2
  have y3 : w6.cell? ⟨L, 3, none⟩ = some (.bool false) := O.ly.cell 3
  have FF : rsX r = ⟨5, none8, none8, dgV s1, none8, 0, 0⟩ ∧ rsR r = q1 := by
    unfold rsX rsR rs4 rs3 rs2
    rw [HK.out]
    simp only [rT, rD, rM, rA, LT.out, LD.out, LM.out, LA.out, if_true, Bool.false_eq_true, if_false]
    simp only [HS1.out, HQ1.out, HQ0.out]
    first | exact ⟨rfl, rfl⟩ | exact ⟨rfl, trivial⟩ | exact ⟨trivial, rfl⟩ | trivial
  have fin := FF.1.symm
  have fir := FF.2.symm
  clear FF
  rw [fin, fir] at O
  have zd : (rsX r).dig.length = 32 := by rw [← fin]; exact ydl
  clear fin fir ydl
  have D1 := sl_loads O.sy zd
  have D2 := sl_stores O.rs zeros_dig.len zd
  have R1 := O.rs.row (slV (rsX r))
  have E1 := O.rd.rowOther (ds := slV (rsX r)) O.ne.2.2.2.2.2.2.2.2
  have U1 := turns_row (cs := slV (rsX r)) O.turn O.ne.2.2.2.2.2.2.2.1
  generalize w6.setRow R (slV (rsX r)) = w99 at D2 R1 E1 U1
  go_wp2_with (first | refine wpl_load D1 rfl rfl rfl ?_ | refine wpl_store D2 rfl rfl rfl rfl rfl ?_)
  exact bodyPost_ret (results_cell_row Tryz.results91 _ _ R 39 (slV (rsX r)) (0, 0) _ rfl R1.heap Tryz.underlying39 rfl (by rw [slV_size zd]; kernel_rfl)) rfl ⟨rfl, E1, U1⟩
set_option maxHeartbeats 4000000 in
theorem rslip_touch {w : World} {B : Nat} {r : Rd} (h : At w B 141 (rdV r)) (hk : nb r 1 = 6) (hz : r.rest.size ≤ 1099511627776) :
    Calls Tryz.prog 91 #[.pointer (some ⟨B, 0, none⟩)] w fun e w' => e = .returned (.agg (slV (rsX r))) ∧ At w' B 141 (rdV (rsR r)) ∧ Turns B w w' := by
  have lT : hT 6 = false := rfl
  have lD : hD 6 = true := rfl
  have lM : hM 6 = false := rfl
  have lA : hA 6 = false := rfl
  have LT := Lib.hid lT; have LD := Lib.hid lD; have LM := Lib.hid lM; have LA := Lib.hid lA
  clear lT lD lM lA
  have HK := Lib.hid hk
  clear hk
  obtain ⟨q0, hq0⟩ : ∃ q, q = rs1 r := ⟨_, rfl⟩
  have z0 : q0.rest.size ≤ 1099511627776 := by rw [hq0]; exact Nat.le_trans (tkR_le r 1) hz
  have hBw := h.lt
  have hr := At.new w 39 #[.int .i64 0, .string ⟨#[]⟩, .string ⟨#[]⟩, .int .u8 0, .int .u8 0, .int .u8 0, .int .u8 0, .int .u8 0, .int .u8 0, .int .u8 0, .int .u8 0, .int .u8 0, .int .u8 0, .int .u8 0, .int .u8 0, .int .u8 0, .int .u8 0, .int .u8 0, .int .u8 0, .int .u8 0, .int .u8 0, .int .u8 0, .int .u8 0, .int .u8 0, .int .u8 0, .int .u8 0, .int .u8 0, .int .u8 0, .int .u8 0, .int .u8 0, .int .u8 0, .int .u8 0, .int .u8 0, .int .u8 0, .int .u8 0, .string ⟨#[]⟩, .int .i64 0, .int .i64 0]
  have h1 := h.alloc (.cells #[.int .i64 0, .string ⟨#[]⟩, .string ⟨#[]⟩, .int .u8 0, .int .u8 0, .int .u8 0, .int .u8 0, .int .u8 0, .int .u8 0, .int .u8 0, .int .u8 0, .int .u8 0, .int .u8 0, .int .u8 0, .int .u8 0, .int .u8 0, .int .u8 0, .int .u8 0, .int .u8 0, .int .u8 0, .int .u8 0, .int .u8 0, .int .u8 0, .int .u8 0, .int .u8 0, .int .u8 0, .int .u8 0, .int .u8 0, .int .u8 0, .int .u8 0, .int .u8 0, .int .u8 0, .int .u8 0, .int .u8 0, .int .u8 0, .string ⟨#[]⟩, .int .i64 0, .int .i64 0] 39)
  have F : Below w.heap.size w (w.alloc (.cells #[.int .i64 0, .string ⟨#[]⟩, .string ⟨#[]⟩, .int .u8 0, .int .u8 0, .int .u8 0, .int .u8 0, .int .u8 0, .int .u8 0, .int .u8 0, .int .u8 0, .int .u8 0, .int .u8 0, .int .u8 0, .int .u8 0, .int .u8 0, .int .u8 0, .int .u8 0, .int .u8 0, .int .u8 0, .int .u8 0, .int .u8 0, .int .u8 0, .int .u8 0, .int .u8 0, .int .u8 0, .int .u8 0, .int .u8 0, .int .u8 0, .int .u8 0, .int .u8 0, .int .u8 0, .int .u8 0, .int .u8 0, .int .u8 0, .string ⟨#[]⟩, .int .i64 0, .int .i64 0] 39)) := (Below.refl _ _).alloc (Nat.le_refl _) _
  clear h
  go_enter Tryz.func91, Tryz.ntmps91
  go_upto_region 1 with (fail)
  obtain ⟨R, hR⟩ : ∃ R, R = w.heap.size := ⟨_, rfl⟩
  rw [← hR] at hr ⊢
  generalize w.alloc (.cells #[.int .i64 0, .string ⟨#[]⟩, .string ⟨#[]⟩, .int .u8 0, .int .u8 0, .int .u8 0, .int .u8 0, .int .u8 0, .int .u8 0, .int .u8 0, .int .u8 0, .int .u8 0, .int .u8 0, .int .u8 0, .int .u8 0, .int .u8 0, .int .u8 0, .int .u8 0, .int .u8 0, .int .u8 0, .int .u8 0, .int .u8 0, .int .u8 0, .int .u8 0, .int .u8 0, .int .u8 0, .int .u8 0, .int .u8 0, .int .u8 0, .int .u8 0, .int .u8 0, .int .u8 0, .int .u8 0, .int .u8 0, .int .u8 0, .string ⟨#[]⟩, .int .i64 0, .int .i64 0] 39) = w1 at hr h1 F ⊢
  have HR := Lib.hid hR
  clear hR
  rw [zslip] at hr
  have T1 := Turns.of_below (B := B) F
  clear F
  have hRB : R ≠ B := by have := HR.out; omega
  go_wp2_with fail
  refine (take_any h1 1 hz (by decide)).mono ?_
  rintro e w2 ⟨rfl, A2, K2⟩
  rw [show tkR r 1 = q0 from hq0.symm] at A2
  have HQ0 := Lib.hid hq0
  clear hq0
  replace hr := hr.turns K2 hRB
  have T2 := T1.trans K2
  clear h1 T1 K2
  go_wp2_with fail
  refine (number_any (tkV r 1) _ (by have := tkV_size r 1; omega)).mono ?_
  rintro e vX ⟨rfl, rfl⟩
  rw [show IntKind.i64.wrap (bN (bl (tkV r 1)) : Int) = 6 from HK.out]
  have HRL := Lib.hid hr.lt
  obtain ⟨w3, S3, hy, G3, Z3⟩ := k_keep w2 6
  clear Z3
  replace hr := hr.old G3
  replace A2 := A2.old G3
  have hYn : w.heap.size ≤ w2.heap.size := T2.size
  have T3 := T2.trans (Turns.of_below G3)
  have hRY : R ≠ w2.heap.size := by
    have h5 := HRL.out
    omega
  go_upto_region 2 with (refine wpl_store S3 rfl rfl rfl rfl rfl ?_)
  clear S3 T2 G3
  generalize w2.heap.size = Y at hy hYn hRY ⊢
  have c0 : w3.cell? ⟨Y, 0, none⟩ = some (.int .i64 6) := hy.cell 0
  go_wp2_with fail
  refine (layout_any 6 _).mono ?_
  rintro e w4 ⟨rfl, G4⟩
  replace hr := hr.old G4
  replace A2 := A2.old G4
  replace hy := hy.old G4
  have T4 := T3.trans (Turns.of_below G4)
  clear T3 G4 c0
  obtain ⟨w5, S5, hl, G5, Z5⟩ := keep (P := Tryz.prog) (ty := 146) w4 #[.bool false, .bool false, .bool false, .bool false] (layV 6) 146 (by kernel_rfl) rfl (lay_one 6)
  clear Z5
  have O : RS w w5 B R Y w4.heap.size 6 ⟨6, none8, none8, zeros, none8, 0, 0⟩ q0 := ⟨A2.old G5, hr.old G5, hy.old G5, hl, T4.trans (Turns.of_below G5), by have := HR.out; have := hy.lt; have := A2.lt; omega⟩
  go_upto_region 3 with (refine wpl_store S5 rfl rfl rfl rfl rfl ?_)
  clear S5 G5 hl T4 hr A2 hy hYn hRY
  generalize w4.heap.size = L at O ⊢
  have ydl := zeros_dig.len
  have y0 : w5.cell? ⟨L, 0, none⟩ = some (.bool false) := O.ly.cell 0
  have y1 : w5.cell? ⟨L, 1, none⟩ = some (.bool true) := O.ly.cell 1
  go_upto_region 7 with (fail)
  clear y0 y1
  refine wp_region_held (S := fun _ => True) (by kernel_rfl) ?_
  change wpAnyH _ _ _ _ _ _ _ _ w5.drew
  replace O := O.drew
  generalize w5.drew = wd at O ⊢
  have CC := take_any O.rd 32 z0 (by decide)
  have ht32 := tk32 q0
  obtain ⟨q1, hq⟩ : ∃ q, q = tkR q0 32 := ⟨_, rfl⟩
  obtain ⟨s1, hs⟩ : ∃ s, s = tkV q0 32 := ⟨_, rfl⟩
  have z1 : q1.rest.size ≤ 1099511627776 := by rw [hq]; exact Nat.le_trans (tkR_le q0 32) z0
  rw [← hq, ← hs] at CC
  have HQ1 := Lib.hid hq; have HS1 := Lib.hid hs
  clear hq hs
  rw [← HS1.out] at ht32
  have HT32 := Lib.hid ht32
  clear ht32
  refine held_take 0 (.pointer (some ⟨Y, 3, none⟩)) rfl (by kernel_rfl) (by kernel_rfl) (by kernel_rfl) (fun _ _ _ h => h) (Or.inl ⟨by rfl, fun x j => by go_simp⟩) trivial (fun K hK => ?_)
  go_simp
  refine hK _ _ ?_
  clear hK K
  refine held_take 1 (.slice (some ⟨Y, 3, none⟩) 32 32) rfl (by kernel_rfl) (by kernel_rfl) (by kernel_rfl) (fun _ _ _ h => h) (Or.inl ⟨by rfl, fun x j => by go_simp⟩) trivial (fun K hK => ?_)
  go_simp
  refine hK _ _ ?_
  clear hK K
  refine held_take 2 (.pointer (some ⟨B, 0, none⟩)) rfl (by kernel_rfl) (by kernel_rfl) (by kernel_rfl) (fun _ _ _ h => h) (Or.inl ⟨by rfl, fun x j => by go_simp⟩) trivial (fun K hK => ?_)
  go_simp
  refine hK _ _ ?_
  clear hK K
  refine held_one 3 (by kernel_rfl) (fun K hK => wpOp_in rfl rfl ?_)
  go_simp
  refine CC.mono ?_
  rintro e wa ⟨rfl, A', K'⟩
  replace O := O.turns K' A'
  clear A' K' CC
  refine hK _ _ trivial ?_
  clear hK K
  refine held_one 4 (by kernel_rfl) (fun K hK => wpOp_in rfl rfl ?_)
  obtain ⟨X, hX, hX2⟩ := copy_dig O.sy rfl s1 HT32.out 0
  refine wp_copy (fun ty => copy_ty hX ty) rfl rfl rfl ?_
  go_simp
  refine hK _ _ trivial ?_
  clear hK K
  refine wpAnyH_done (by kernel_rfl) ?_ _
  have O2 := O.copied rfl hX2
  clear O hX hX2
  generalize X = w6 at O2 ⊢
  have O : RS w w6 B R Y L 6 ⟨6, none8, none8, dgV s1, none8, 0, 0⟩ (q1) := O2
  clear O2 ydl
  have ydl := (dgV_dig s1).len
  have y2 : w6.cell? ⟨L, 2, none⟩ = some (.bool false) := O.ly.cell 2
  have y3 : w6.cell? ⟨L, 3, none⟩ = some (.bool false) := O.ly.cell 3
  have FF : rsX r = ⟨6, none8, none8, dgV s1, none8, 0, 0⟩ ∧ rsR r = q1 := by
    unfold rsX rsR rs4 rs3 rs2
    rw [HK.out]
    simp only [rT, rD, rM, rA, LT.out, LD.out, LM.out, LA.out, if_true, Bool.false_eq_true, if_false]
    simp only [HS1.out, HQ1.out, HQ0.out]
    first | exact ⟨rfl, rfl⟩ | exact ⟨rfl, trivial⟩ | exact ⟨trivial, rfl⟩ | trivial
  have fin := FF.1.symm
  have fir := FF.2.symm
  clear FF
  rw [fin, fir] at O
  have zd : (rsX r).dig.length = 32 := by rw [← fin]; exact ydl
  clear fin fir ydl
  have D1 := sl_loads O.sy zd
  have D2 := sl_stores O.rs zeros_dig.len zd
  have R1 := O.rs.row (slV (rsX r))
  have E1 := O.rd.rowOther (ds := slV (rsX r)) O.ne.2.2.2.2.2.2.2.2
  have U1 := turns_row (cs := slV (rsX r)) O.turn O.ne.2.2.2.2.2.2.2.1
  generalize w6.setRow R (slV (rsX r)) = w99 at D2 R1 E1 U1
  go_wp2_with (first | refine wpl_load D1 rfl rfl rfl ?_ | refine wpl_store D2 rfl rfl rfl rfl rfl ?_)
  exact bodyPost_ret (results_cell_row Tryz.results91 _ _ R 39 (slV (rsX r)) (0, 0) _ rfl R1.heap Tryz.underlying39 rfl (by rw [slV_size zd]; kernel_rfl)) rfl ⟨rfl, E1, U1⟩
set_option maxHeartbeats 4000000 in
theorem rslip_none {w : World} {B : Nat} {r : Rd} (k : Int) (h : At w B 141 (rdV r)) (hk : nb r 1 = k) (hn : k ≠ 1 ∧ k ≠ 2 ∧ k ≠ 3 ∧ k ≠ 4 ∧ k ≠ 5 ∧ k ≠ 6) (hz : r.rest.size ≤ 1099511627776) :
    Calls Tryz.prog 91 #[.pointer (some ⟨B, 0, none⟩)] w fun e w' => e = .returned (.agg (slV (rsX r))) ∧ At w' B 141 (rdV (rsR r)) ∧ Turns B w w' := by
  obtain ⟨hn1, hn2, hn3, hn4, hn5, hn6⟩ := hn
  have lT : hT k = false := by simp [hT, hn1, hn2, hn3]
  have lD : hD k = false := by simp [hD, hn1, hn4, hn5, hn6]
  have lM : hM k = false := by simp [hM, hn1, hn4]
  have lA : hA k = false := by simp [hA, hn1, hn2]
  have LT := Lib.hid lT; have LD := Lib.hid lD; have LM := Lib.hid lM; have LA := Lib.hid lA
  clear lT lD lM lA
  have HK := Lib.hid hk
  clear hk
  obtain ⟨q0, hq0⟩ : ∃ q, q = rs1 r := ⟨_, rfl⟩
  have z0 : q0.rest.size ≤ 1099511627776 := by rw [hq0]; exact Nat.le_trans (tkR_le r 1) hz
  have hBw := h.lt
  have hr := At.new w 39 #[.int .i64 0, .string ⟨#[]⟩, .string ⟨#[]⟩, .int .u8 0, .int .u8 0, .int .u8 0, .int .u8 0, .int .u8 0, .int .u8 0, .int .u8 0, .int .u8 0, .int .u8 0, .int .u8 0, .int .u8 0, .int .u8 0, .int .u8 0, .int .u8 0, .int .u8 0, .int .u8 0, .int .u8 0, .int .u8 0, .int .u8 0, .int .u8 0, .int .u8 0, .int .u8 0, .int .u8 0, .int .u8 0, .int .u8 0, .int .u8 0, .int .u8 0, .int .u8 0, .int .u8 0, .int .u8 0, .int .u8 0, .int .u8 0, .string ⟨#[]⟩, .int .i64 0, .int .i64 0]
  have h1 := h.alloc (.cells #[.int .i64 0, .string ⟨#[]⟩, .string ⟨#[]⟩, .int .u8 0, .int .u8 0, .int .u8 0, .int .u8 0, .int .u8 0, .int .u8 0, .int .u8 0, .int .u8 0, .int .u8 0, .int .u8 0, .int .u8 0, .int .u8 0, .int .u8 0, .int .u8 0, .int .u8 0, .int .u8 0, .int .u8 0, .int .u8 0, .int .u8 0, .int .u8 0, .int .u8 0, .int .u8 0, .int .u8 0, .int .u8 0, .int .u8 0, .int .u8 0, .int .u8 0, .int .u8 0, .int .u8 0, .int .u8 0, .int .u8 0, .int .u8 0, .string ⟨#[]⟩, .int .i64 0, .int .i64 0] 39)
  have F : Below w.heap.size w (w.alloc (.cells #[.int .i64 0, .string ⟨#[]⟩, .string ⟨#[]⟩, .int .u8 0, .int .u8 0, .int .u8 0, .int .u8 0, .int .u8 0, .int .u8 0, .int .u8 0, .int .u8 0, .int .u8 0, .int .u8 0, .int .u8 0, .int .u8 0, .int .u8 0, .int .u8 0, .int .u8 0, .int .u8 0, .int .u8 0, .int .u8 0, .int .u8 0, .int .u8 0, .int .u8 0, .int .u8 0, .int .u8 0, .int .u8 0, .int .u8 0, .int .u8 0, .int .u8 0, .int .u8 0, .int .u8 0, .int .u8 0, .int .u8 0, .int .u8 0, .string ⟨#[]⟩, .int .i64 0, .int .i64 0] 39)) := (Below.refl _ _).alloc (Nat.le_refl _) _
  clear h
  go_enter Tryz.func91, Tryz.ntmps91
  go_upto_region 1 with (fail)
  obtain ⟨R, hR⟩ : ∃ R, R = w.heap.size := ⟨_, rfl⟩
  rw [← hR] at hr ⊢
  generalize w.alloc (.cells #[.int .i64 0, .string ⟨#[]⟩, .string ⟨#[]⟩, .int .u8 0, .int .u8 0, .int .u8 0, .int .u8 0, .int .u8 0, .int .u8 0, .int .u8 0, .int .u8 0, .int .u8 0, .int .u8 0, .int .u8 0, .int .u8 0, .int .u8 0, .int .u8 0, .int .u8 0, .int .u8 0, .int .u8 0, .int .u8 0, .int .u8 0, .int .u8 0, .int .u8 0, .int .u8 0, .int .u8 0, .int .u8 0, .int .u8 0, .int .u8 0, .int .u8 0, .int .u8 0, .int .u8 0, .int .u8 0, .int .u8 0, .int .u8 0, .string ⟨#[]⟩, .int .i64 0, .int .i64 0] 39) = w1 at hr h1 F ⊢
  have HR := Lib.hid hR
  clear hR
  rw [zslip] at hr
  have T1 := Turns.of_below (B := B) F
  clear F
  have hRB : R ≠ B := by have := HR.out; omega
  go_wp2_with fail
  refine (take_any h1 1 hz (by decide)).mono ?_
  rintro e w2 ⟨rfl, A2, K2⟩
  rw [show tkR r 1 = q0 from hq0.symm] at A2
  have HQ0 := Lib.hid hq0
  clear hq0
  replace hr := hr.turns K2 hRB
  have T2 := T1.trans K2
  clear h1 T1 K2
  go_wp2_with fail
  refine (number_any (tkV r 1) _ (by have := tkV_size r 1; omega)).mono ?_
  rintro e vX ⟨rfl, rfl⟩
  rw [show IntKind.i64.wrap (bN (bl (tkV r 1)) : Int) = k from HK.out]
  have HRL := Lib.hid hr.lt
  obtain ⟨w3, S3, hy, G3, Z3⟩ := k_keep w2 k
  clear Z3
  replace hr := hr.old G3
  replace A2 := A2.old G3
  have hYn : w.heap.size ≤ w2.heap.size := T2.size
  have T3 := T2.trans (Turns.of_below G3)
  have hRY : R ≠ w2.heap.size := by
    have h5 := HRL.out
    omega
  go_upto_region 2 with (refine wpl_store S3 rfl rfl rfl rfl rfl ?_)
  clear S3 T2 G3
  generalize w2.heap.size = Y at hy hYn hRY ⊢
  have c0 : w3.cell? ⟨Y, 0, none⟩ = some (.int .i64 k) := hy.cell 0
  go_wp2_with fail
  refine (layout_any k _).mono ?_
  rintro e w4 ⟨rfl, G4⟩
  replace hr := hr.old G4
  replace A2 := A2.old G4
  replace hy := hy.old G4
  have T4 := T3.trans (Turns.of_below G4)
  clear T3 G4 c0
  obtain ⟨w5, S5, hl, G5, Z5⟩ := keep (P := Tryz.prog) (ty := 146) w4 #[.bool false, .bool false, .bool false, .bool false] (layV k) 146 (by kernel_rfl) rfl (lay_one k)
  clear Z5
  have O : RS w w5 B R Y w4.heap.size k ⟨k, none8, none8, zeros, none8, 0, 0⟩ q0 := ⟨A2.old G5, hr.old G5, hy.old G5, hl, T4.trans (Turns.of_below G5), by have := HR.out; have := hy.lt; have := A2.lt; omega⟩
  go_upto_region 3 with (refine wpl_store S5 rfl rfl rfl rfl rfl ?_)
  clear S5 G5 hl T4 hr A2 hy hYn hRY
  generalize w4.heap.size = L at O ⊢
  have ydl := zeros_dig.len
  have y0 : w5.cell? ⟨L, 0, none⟩ = some (.bool false) := (O.ly.cell 0).trans (by show some (Value.bool (hT k)) = _; rw [LT.out])
  have y1 : w5.cell? ⟨L, 1, none⟩ = some (.bool false) := (O.ly.cell 1).trans (by show some (Value.bool (hD k)) = _; rw [LD.out])
  have y2 : w5.cell? ⟨L, 2, none⟩ = some (.bool false) := (O.ly.cell 2).trans (by show some (Value.bool (hM k)) = _; rw [LM.out])
  have y3 : w5.cell? ⟨L, 3, none⟩ = some (.bool false) := (O.ly.cell 3).trans (by show some (Value.bool (hA k)) = _; rw [LA.out])
  have FF : rsX r = ⟨k, none8, none8, zeros, none8, 0, 0⟩ ∧ rsR r = q0 := by
    unfold rsX rsR rs4 rs3 rs2
    rw [HK.out]
    simp only [rT, rD, rM, rA, LT.out, LD.out, LM.out, LA.out, if_true, Bool.false_eq_true, if_false]
    simp only [HQ0.out]
    first | exact ⟨rfl, rfl⟩ | exact ⟨rfl, trivial⟩ | exact ⟨trivial, rfl⟩ | trivial
  have fin := FF.1.symm
  have fir := FF.2.symm
  clear FF
  rw [fin, fir] at O
  have zd : (rsX r).dig.length = 32 := by rw [← fin]; exact ydl
  clear fin fir ydl
  have D1 := sl_loads O.sy zd
  have D2 := sl_stores O.rs zeros_dig.len zd
  have R1 := O.rs.row (slV (rsX r))
  have E1 := O.rd.rowOther (ds := slV (rsX r)) O.ne.2.2.2.2.2.2.2.2
  have U1 := turns_row (cs := slV (rsX r)) O.turn O.ne.2.2.2.2.2.2.2.1
  generalize w5.setRow R (slV (rsX r)) = w99 at D2 R1 E1 U1
  go_wp2_with (first | refine wpl_load D1 rfl rfl rfl ?_ | refine wpl_store D2 rfl rfl rfl rfl rfl ?_)
  exact bodyPost_ret (results_cell_row Tryz.results91 _ _ R 39 (slV (rsX r)) (0, 0) _ rfl R1.heap Tryz.underlying39 rfl (by rw [slV_size zd]; kernel_rfl)) rfl ⟨rfl, E1, U1⟩
theorem rslip_any {w : World} {B : Nat} {r : Rd} (h : At w B 141 (rdV r)) (hz : r.rest.size ≤ 1099511627776) :
    Calls Tryz.prog 91 #[.pointer (some ⟨B, 0, none⟩)] w fun e w' => e = .returned (.agg (slV (rsX r))) ∧ At w' B 141 (rdV (rsR r)) ∧ Turns B w w' := by
  rcases kinds (nb r 1) with e | e | e | e | e | e | e
  · exact rslip_bind h e hz
  · exact rslip_miss h e hz
  · exact rslip_drop h e hz
  · exact rslip_blob h e hz
  · exact rslip_gone h e hz
  · exact rslip_touch h e hz
  · exact rslip_none (nb r 1) h rfl e hz
end Go.Proofs.YtdmgobffhpgjlaaGreat.Sl
end

section
namespace Go.Proofs.YtdmgobffhpgjlaaGreat.Sl
open Go.RowKit Go.PlainAid Go.Proofs.YtdmgobffhpgjlaaGreat.Cr
set_option linter.unusedVariables false
set_option maxRecDepth 20000
set_option linter.unusedSimpArgs false

theorem bl_size {s : ByteArray} {l : List Nat} (h : bl s = l) : s.size = l.length := by rw [← h, bl_len]
/-! ### what is taken -/
theorem tk_app {r : Rd} {a c : List Nat} (h : bl r.rest = a ++ c) {n : Nat} (hn : a.length = n) : bl (tkV r n) = a ∧ bl (tkR r n).rest = c ∧ (tkR r n).torn = r.torn := by
  have hs := bl_size h
  rw [List.length_append] at hs
  have c1 : ¬ r.rest.size < n := by omega
  unfold tkV tkR
  rw [if_neg c1, if_neg c1, bl_extract, h]
  refine ⟨?_, ?_, rfl⟩
  · rw [List.drop_zero, Nat.sub_zero]
    exact List.take_left' hn
  · dsimp only
    rw [bl_extract, h, List.drop_left' hn]
    exact List.take_of_length_le (by omega)
theorem tk_inv {r : Rd} {n : Nat} (h : (tkR r n).torn = false) : r.torn = false ∧ bl r.rest = bl (tkV r n) ++ bl (tkR r n).rest ∧ (tkV r n).size = n := by
  unfold tkR at h
  split at h
  · cases h
  · rename_i c1
    have e1 : tkV r n = r.rest.extract 0 n := by unfold tkV; rw [if_neg c1]
    have e2 : (tkR r n).rest = r.rest.extract n r.rest.size := by unfold tkR; rw [if_neg c1]
    refine ⟨h, ?_, ?_⟩
    · rw [e1, e2, bl_extract, bl_extract, List.drop_zero, Nat.sub_zero]
      have : ((bl r.rest).drop n).take (r.rest.size - n) = (bl r.rest).drop n := List.take_of_length_le (by rw [List.length_drop, bl_len]; omega)
      rw [this, List.take_append_drop]
    · rw [e1, ByteArray.size_extract]; omega
theorem be_one (n : Nat) (h : n < 256) : be 1 (n : Int) = [n] := by
  simp only [be, Int.pow_zero, Int.ediv_one]
  congr 1
  omega
theorem one_byte {s : ByteArray} (h : s.size = 1) : bl s = be 1 (bN (bl s) : Int) := by
  have := be_bN (l := bl s) (bl_lt s)
  rw [bl_len, h] at this
  exact this.symm
theorem nb_app {r : Rd} {v : Int} {c : List Nat} {m : Nat} (hm : m ≤ 8) (h0 : 0 ≤ v) (h1 : v < 256 ^ m) (h2 : v < 9223372036854775808) (h : bl r.rest = be m v ++ c) : nb r m = v ∧ bl (tkR r m).rest = c ∧ (tkR r m).torn = r.torn := by
  obtain ⟨a1, a2, a3⟩ := tk_app h (be_len m v)
  refine ⟨?_, a2, a3⟩
  obtain ⟨q, rfl⟩ : ∃ q : Nat, v = (q : Int) := ⟨v.toNat, by omega⟩
  have h1' : q < 256 ^ m := Int.ofNat_lt.1 (by rw [Int.natCast_pow]; exact h1)
  unfold nb
  rw [a1, bN_be m q h1', i64_is]
  unfold wrap64
  omega
theorem nb_inv {r : Rd} (h : (tkR r 8).torn = false) (h0 : 0 ≤ nb r 8) : r.torn = false ∧ bl r.rest = be 8 (nb r 8) ++ bl (tkR r 8).rest := by
  obtain ⟨a1, a2, a3⟩ := tk_inv h
  refine ⟨a1, ?_⟩
  have hl : (bl (tkV r 8)).length = 8 := by rw [bl_len, a3]
  have hlt := bN_lt (bl (tkV r 8)) (bl_lt _)
  rw [hl] at hlt
  have hb := be_bN (l := bl (tkV r 8)) (bl_lt _)
  rw [hl] at hb
  have e : nb r 8 = (bN (bl (tkV r 8)) : Int) := by
    unfold nb at h0 ⊢
    rw [i64_is] at h0 ⊢
    unfold wrap64 at h0 ⊢
    have : (256 : Nat) ^ 8 = 18446744073709551616 := by decide
    omega
  rw [e, hb]
  exact a2
theorem tx_app {r : Rd} {s : ByteArray} {c : List Nat} (hs : s.size < 256) (h : bl r.rest = txt s ++ c) : txV r = s ∧ bl (txR r).rest = c ∧ (txR r).torn = r.torn := by
  unfold txt at h
  rw [List.append_assoc] at h
  obtain ⟨a1, a2, a3⟩ := tk_app h (be_len 1 _)
  have e : txN r = s.size := by
    unfold txN
    rw [a1, bN_be 1 s.size (by simpa using hs)]
  obtain ⟨b1, b2, b3⟩ := tk_app a2 (bl_len s)
  unfold txV txR
  rw [e]
  exact ⟨bl_inj b1, b2, by rw [b3, a3]⟩
theorem tx_inv {r : Rd} (h : (txR r).torn = false) : r.torn = false ∧ bl r.rest = txt (txV r) ++ bl (txR r).rest := by
  unfold txR at h
  obtain ⟨a1, a2, a3⟩ := tk_inv h
  obtain ⟨b1, b2, b3⟩ := tk_inv a1
  refine ⟨b1, ?_⟩
  have e1 := one_byte b3
  have e2 : (txV r).size = txN r := a3
  unfold txt
  rw [e2, b2, List.append_assoc]
  have e3 : bl (tkV r 1) = be 1 (txN r : Int) := e1
  rw [e3]
  congr 1

/-! ### part by part -/
theorem rT_app {k : Int} {r : Rd} {a b : ByteArray} {c : List Nat} (hn : hT k = true → a.size < 256 ∧ b.size < 256) (h0 : hT k = false → a = none8 ∧ b = none8) (h : bl r.rest = (if hT k then txt a ++ txt b else []) ++ c) :
    (rT k r).1 = (a, b) ∧ bl (rT k r).2.rest = c ∧ (rT k r).2.torn = r.torn := by
  unfold rT
  cases e : hT k
  · rw [e] at h
    obtain ⟨rfl, rfl⟩ := h0 e
    simp only [Bool.false_eq_true, if_false, List.nil_append] at h ⊢
    exact ⟨trivial, h, trivial⟩
  · rw [e] at h
    simp only [if_true, List.append_assoc] at h ⊢
    obtain ⟨s1, s2⟩ := hn e
    obtain ⟨a1, a2, a3⟩ := tx_app s1 h
    obtain ⟨b1, b2, b3⟩ := tx_app s2 a2
    exact ⟨by rw [a1, b1], b2, by rw [b3, a3]⟩
theorem rT_inv {k : Int} {r : Rd} (h : (rT k r).2.torn = false) : r.torn = false ∧ bl r.rest = (if hT k then txt (rT k r).1.1 ++ txt (rT k r).1.2 else []) ++ bl (rT k r).2.rest := by
  unfold rT at h ⊢
  cases e : hT k
  · rw [e] at h
    simp only [Bool.false_eq_true, if_false, List.nil_append] at h ⊢
    exact ⟨h, trivial⟩
  · rw [e] at h
    simp only [if_true, List.append_assoc] at h ⊢
    obtain ⟨a1, a2⟩ := tx_inv h
    obtain ⟨b1, b2⟩ := tx_inv a1
    exact ⟨b1, by rw [b2, a2]⟩
theorem rD_app {k : Int} {r : Rd} {d : List Nat} {c : List Nat} (hd : Dig d) (h0 : hD k = false → d = zeros) (h : bl r.rest = (if hD k then d else []) ++ c) :
    (rD k r).1 = d ∧ bl (rD k r).2.rest = c ∧ (rD k r).2.torn = r.torn := by
  unfold rD
  cases e : hD k
  · rw [e] at h
    simp only [Bool.false_eq_true, if_false, List.nil_append] at h ⊢
    exact ⟨(h0 e).symm, h, trivial⟩
  · rw [e] at h
    simp only [if_true] at h ⊢
    obtain ⟨a1, a2, a3⟩ := tk_app h hd.len
    refine ⟨?_, a2, a3⟩
    unfold dgV
    rw [if_pos (by rw [bl_size a1, hd.len]), a1]
theorem rD_inv {k : Int} {r : Rd} (h : (rD k r).2.torn = false) : r.torn = false ∧ bl r.rest = (if hD k then (rD k r).1 else []) ++ bl (rD k r).2.rest := by
  unfold rD at h ⊢
  cases e : hD k
  · rw [e] at h
    simp only [Bool.false_eq_true, if_false, List.nil_append] at h ⊢
    exact ⟨h, trivial⟩
  · rw [e] at h
    simp only [if_true] at h ⊢
    obtain ⟨a1, a2, a3⟩ := tk_inv h
    refine ⟨a1, ?_⟩
    unfold dgV
    rw [if_pos a3]
    exact a2
theorem rM_app {k : Int} {r : Rd} {m : ByteArray} {v : Int} {c : List Nat} (hm : m.size < 256) (hv : 0 ≤ v ∧ v < 9223372036854775808) (h0 : hM k = false → m = none8 ∧ v = 0) (h : bl r.rest = (if hM k then txt m ++ be 8 v else []) ++ c) :
    (rM k r).1 = (m, v) ∧ bl (rM k r).2.rest = c ∧ (rM k r).2.torn = r.torn := by
  unfold rM
  cases e : hM k
  · rw [e] at h
    obtain ⟨rfl, rfl⟩ := h0 e
    simp only [Bool.false_eq_true, if_false, List.nil_append] at h ⊢
    exact ⟨trivial, h, trivial⟩
  · rw [e] at h
    simp only [if_true, List.append_assoc] at h ⊢
    obtain ⟨a1, a2, a3⟩ := tx_app hm h
    obtain ⟨b1, b2, b3⟩ := nb_app (by decide) hv.1 (by have : (256 : Int) ^ 8 = 18446744073709551616 := by decide
                                                       omega) hv.2 a2
    exact ⟨by rw [a1, b1], b2, by rw [b3, a3]⟩
theorem rM_inv {k : Int} {r : Rd} (h : (rM k r).2.torn = false) (h0 : 0 ≤ (rM k r).1.2) : r.torn = false ∧ bl r.rest = (if hM k then txt (rM k r).1.1 ++ be 8 (rM k r).1.2 else []) ++ bl (rM k r).2.rest := by
  unfold rM at h h0 ⊢
  cases e : hM k
  · rw [e] at h
    simp only [Bool.false_eq_true, if_false, List.nil_append] at h ⊢
    exact ⟨h, trivial⟩
  · rw [e] at h h0
    simp only [if_true, List.append_assoc] at h h0 ⊢
    obtain ⟨a1, a2⟩ := nb_inv h h0
    obtain ⟨b1, b2⟩ := tx_inv a1
    exact ⟨b1, by rw [b2, a2]⟩
theorem rA_app {k : Int} {r : Rd} {v : Int} {c : List Nat} (hv : 0 ≤ v ∧ v < 9223372036854775808) (h0 : hA k = false → v = 0) (h : bl r.rest = (if hA k then be 8 v else []) ++ c) :
    (rA k r).1 = v ∧ bl (rA k r).2.rest = c ∧ (rA k r).2.torn = r.torn := by
  unfold rA
  cases e : hA k
  · rw [e] at h
    simp only [Bool.false_eq_true, if_false, List.nil_append] at h ⊢
    exact ⟨(h0 e).symm, h, trivial⟩
  · rw [e] at h
    simp only [if_true] at h ⊢
    exact nb_app (by decide) hv.1 (by have : (256 : Int) ^ 8 = 18446744073709551616 := by decide
                                      omega) hv.2 h
theorem rA_inv {k : Int} {r : Rd} (h : (rA k r).2.torn = false) (h0 : 0 ≤ (rA k r).1) : r.torn = false ∧ bl r.rest = (if hA k then be 8 (rA k r).1 else []) ++ bl (rA k r).2.rest := by
  unfold rA at h h0 ⊢
  cases e : hA k
  · rw [e] at h
    simp only [Bool.false_eq_true, if_false, List.nil_append] at h ⊢
    exact ⟨h, trivial⟩
  · rw [e] at h h0
    simp only [if_true] at h h0 ⊢
    exact nb_inv h h0
/-- what was written is read as it was -/
theorem rs_app {s : ByteArray} {x : Sp} (hx : Can x) (h : bl s = bodyL x) : rsX ⟨s, false⟩ = x ∧ (rsR ⟨s, false⟩).torn = false ∧ (rsR ⟨s, false⟩).rest = none8 := by
  have h' : bl (Rd.mk s false).rest = be 1 x.k ++ (pT x ++ (pD x ++ (pM x ++ (pA x ++ [])))) := by
    show bl s = _
    rw [h]
    unfold bodyL
    simp [List.append_assoc]
  have hk := hx.k
  obtain ⟨a1, a2, a3⟩ := nb_app (m := 1) (by decide) (by omega) (by have : (256 : Int) ^ 1 = 256 := by decide
                                                                    omega) (by omega) h'
  have hn : hT x.k = true → x.repo.size < 256 ∧ x.tag.size < 256 := fun e => by have := hx.names e; omega
  obtain ⟨b1, b2, b3⟩ := rT_app (k := x.k) (r := rs1 ⟨s, false⟩) hn hx.noNames a2
  have e2 : rs2 ⟨s, false⟩ = (rT x.k (rs1 ⟨s, false⟩)).2 := by unfold rs2; rw [a1]
  rw [← e2] at b2 b3
  obtain ⟨c1, c2, c3⟩ := rD_app (k := x.k) hx.dig hx.noDig b2
  have e3 : rs3 ⟨s, false⟩ = (rD x.k (rs2 ⟨s, false⟩)).2 := by unfold rs3; rw [a1]
  rw [← e3] at c2 c3
  have t1 := hx.ty; have t2 := hx.sz; have t3 := hx.tm
  obtain ⟨d1, d2, d3⟩ := rM_app (k := x.k) (by omega) (by omega) hx.noMedia c2
  have e4 : rs4 ⟨s, false⟩ = (rM x.k (rs3 ⟨s, false⟩)).2 := by unfold rs4; rw [a1]
  rw [← e4] at d2 d3
  obtain ⟨f1, f2, f3⟩ := rA_app (k := x.k) (by omega) hx.noTime d2
  have e5 : rsR ⟨s, false⟩ = (rA x.k (rs4 ⟨s, false⟩)).2 := by unfold rsR; rw [a1]
  refine ⟨?_, ?_, ?_⟩
  · unfold rsX
    rw [a1, b1, c1, d1, f1]
  · rw [e5, f3, d3, c3, b3]
    exact a3
  · rw [e5]
    exact bl_inj f2
/-- what is read whole would have been written so -/
theorem rs_inv {s : ByteArray} (h1 : (rsR ⟨s, false⟩).torn = false) (h2 : (rsR ⟨s, false⟩).rest = none8) (hx : Can (rsX ⟨s, false⟩)) : bl s = bodyL (rsX ⟨s, false⟩) := by
  have t2 := hx.sz; have t3 := hx.tm
  obtain ⟨f1, f2⟩ := rA_inv (k := nb ⟨s, false⟩ 1) (r := rs4 ⟨s, false⟩) h1 t3.1
  obtain ⟨d1, d2⟩ := rM_inv (k := nb ⟨s, false⟩ 1) (r := rs3 ⟨s, false⟩) f1 t2.1
  obtain ⟨c1, c2⟩ := rD_inv (k := nb ⟨s, false⟩ 1) (r := rs2 ⟨s, false⟩) d1
  obtain ⟨b1, b2⟩ := rT_inv (k := nb ⟨s, false⟩ 1) (r := rs1 ⟨s, false⟩) c1
  obtain ⟨a1, a2, a3⟩ := tk_inv (r := ⟨s, false⟩) (n := 1) b1
  have e1 : bl (tkV ⟨s, false⟩ 1) = be 1 (nb ⟨s, false⟩ 1) := by
    rw [nb_one]
    exact one_byte a3
  have r0 : bl (rA (nb ⟨s, false⟩ 1) (rs4 ⟨s, false⟩)).2.rest = [] := by
    have : (rA (nb ⟨s, false⟩ 1) (rs4 ⟨s, false⟩)).2.rest = none8 := h2
    rw [this]; rfl
  rw [r0] at f2
  have g4 : bl (rM (nb ⟨s, false⟩ 1) (rs3 ⟨s, false⟩)).2.rest = _ := f2
  have g3 : bl (rD (nb ⟨s, false⟩ 1) (rs2 ⟨s, false⟩)).2.rest = _ := d2
  have g2 : bl (rT (nb ⟨s, false⟩ 1) (rs1 ⟨s, false⟩)).2.rest = _ := c2
  have g1 : bl (tkR ⟨s, false⟩ 1).rest = _ := b2
  have g0 : bl s = _ := a2
  rw [g0, e1, g1, g2, g3, g4]
  unfold bodyL pT pD pM pA rsX
  simp [List.append_assoc]
end Go.Proofs.YtdmgobffhpgjlaaGreat.Sl
end

section
namespace Go.Proofs.YtdmgobffhpgjlaaGreat.Sl
open Go.RowKit Go.PlainAid Go.Proofs.YtdmgobffhpgjlaaGreat.Cr
set_option linter.unusedVariables false
set_option maxRecDepth 20000
set_option linter.unusedSimpArgs false

theorem len2_lt (l : List Nat) (h : ∀ x ∈ l, x < 256) : len2 l < 65536 := by
  have h1 := bN_lt (l.take 2) fun x hx => h x (List.mem_of_mem_take hx)
  have h2 : (l.take 2).length ≤ 2 := by rw [List.length_take]; omega
  have h3 : 256 ^ (l.take 2).length ≤ 256 ^ 2 := Nat.pow_le_pow_right (by decide) h2
  unfold len2
  omega
theorem num2 (s : ByteArray) : IntKind.i64.wrap (bN (bl (s.extract 0 2)) : Int) = (len2 (bl s) : Int) := by
  have h := len2_lt (bl s) (bl_lt s)
  rw [bl_extract, List.drop_zero, Nat.sub_zero, i64_is, show bN ((bl s).take 2) = len2 (bl s) from rfl]
  unfold wrap64
  omega
section
variable (s : ByteArray) (w : World) (hs : s.size ≤ 1099511627776)
set_option maxHeartbeats 1000000 in
include hs in
theorem bodyOf_few (h : s.size < 6) : Calls Tryz.prog 90 #[.string s] w fun e w' => e = .returned (.tuple #[.string ⟨#[]⟩, .int .i64 17]) ∧ Below w.heap.size w w' := by
  have l1 : (s.size : Int) < 6 := by omega
  go_enter Tryz.func90, Tryz.ntmps90
  go_wp2
  go_ret2
  exact ⟨rfl, Below.refl _ _⟩
set_option maxHeartbeats 1000000 in
include hs in
theorem bodyOf_none (h : ¬ s.size < 6) (h1 : len2 (bl s) = 0 ∨ 1024 < len2 (bl s)) : Calls Tryz.prog 90 #[.string s] w fun e w' => e = .returned (.tuple #[.string ⟨#[]⟩, .int .i64 3]) ∧ Below w.heap.size w w' := by
  have l1 : 6 ≤ (s.size : Int) := by omega
  have l0 : ¬ (s.size : Int) < 6 := by omega
  have l2 : (2 : Int) ≤ (s.size : Int) := by omega
  have N2 := Lib.hid (num2 s)
  have HL := Lib.hid h1
  clear h1
  go_enter Tryz.func90, Tryz.ntmps90
  go_wp2_with fail
  refine (number_any (s.extract 0 2) _ (by rw [ByteArray.size_extract]; omega)).mono ?_
  rintro e vX ⟨rfl, rfl⟩
  rw [N2.out]
  generalize len2 (bl s) = n at HL
  rcases HL.out with c | c
  · subst c
    go_wp2
    go_ret2
    exact ⟨rfl, Below.refl _ _⟩
  · have m1 : (1024 : Int) < (n : Int) := by omega
    have m2 : ((n : Int) == 0) = false := by rw [beq_eq_false_iff_ne]; omega
    have m3 : ¬ (n : Int) = 0 := by omega
    go_wp2
    go_ret2
    exact ⟨rfl, Below.refl _ _⟩
set_option maxHeartbeats 1000000 in
include hs in
theorem bodyOf_short (h : ¬ s.size < 6) (h1 : ¬ (len2 (bl s) = 0 ∨ 1024 < len2 (bl s))) (h2 : s.size < 6 + len2 (bl s)) : Calls Tryz.prog 90 #[.string s] w fun e w' => e = .returned (.tuple #[.string ⟨#[]⟩, .int .i64 17]) ∧ Below w.heap.size w w' := by
  have l1 : 6 ≤ (s.size : Int) := by omega
  have l0 : ¬ (s.size : Int) < 6 := by omega
  have l2 : (2 : Int) ≤ (s.size : Int) := by omega
  have N2 := Lib.hid (num2 s)
  go_enter Tryz.func90, Tryz.ntmps90
  go_wp2_with fail
  refine (number_any (s.extract 0 2) _ (by rw [ByteArray.size_extract]; omega)).mono ?_
  rintro e vX ⟨rfl, rfl⟩
  rw [N2.out]
  generalize len2 (bl s) = n at h1 h2
  have m1 : ¬ (1024 : Int) < (n : Int) := by omega
  have m2 : ((n : Int) == 0) = false := by rw [beq_eq_false_iff_ne]; omega
  have m3 : ¬ (n : Int) = 0 := by omega
  have m4 : (s.size : Int) < 6 + (n : Int) := by omega
  clear N2 h1 h2
  go_wp2
  go_ret2
  exact ⟨rfl, Below.refl _ _⟩
end
theorem body_text (s : ByteArray) (h : ¬ s.size < 6 + len2 (bl s)) : bl (s.extract 6 (6 + len2 (bl s))) = bodyOf (bl s) := by
  rw [bl_extract, Nat.add_sub_cancel_left]
  rfl
set_option maxHeartbeats 600000 in
theorem bodyOf_yes (s : ByteArray) (w : World) (hs : s.size ≤ 1099511627776) (h : ¬ s.size < 6) (h1 : ¬ (len2 (bl s) = 0 ∨ 1024 < len2 (bl s))) (h2 : ¬ s.size < 6 + len2 (bl s)) (h3 : ((bl s).drop 2).take 4 = le 4 (mor 0 ((bl s).take 2 ++ bodyOf (bl s)))) :
    Calls Tryz.prog 90 #[.string s] w fun e w' => e = .returned (.tuple #[.string (s.extract 6 (6 + len2 (bl s))), .int .i64 0]) ∧ Below w.heap.size w w' := by
  have l1 : 6 ≤ (s.size : Int) := by omega
  have l0 : ¬ (s.size : Int) < 6 := by omega
  have l2 : (2 : Int) ≤ (s.size : Int) := by omega
  have l3 : (2 : Int) ≤ 6 := by omega
  have N2 := Lib.hid (num2 s)
  have hb6 := body_text s h2
  have e1 : bl (s.extract 0 2) = (bl s).take 2 := by rw [bl_extract, List.drop_zero, Nat.sub_zero]
  have e2 : bl (s.extract 0 2) ++ bl (s.extract 6 (6 + len2 (bl s))) = (bl s).take 2 ++ bodyOf (bl s) := by rw [e1, hb6]
  have E2 : Hid (mor 0 (bl (s.extract 0 2) ++ bl (s.extract 6 (6 + len2 (bl s)))) = mor 0 ((bl s).take 2 ++ bodyOf (bl s))) := Lib.hid (by rw [e2])
  have ML := Lib.hid (show mor 0 ((bl s).take 2 ++ bodyOf (bl s)) < 4294967296 from mor_lt (by decide) (by rw [← e2]; exact fun x hx => (List.mem_append.1 hx).elim (bl_lt _ x) (bl_lt _ x)))
  have cmp : ((s.extract 2 6).toList == (tl (mor 0 ((bl s).take 2 ++ bodyOf (bl s)))).toList) = true := by
    have e3 : bl (s.extract 2 6) = ((bl s).drop 2).take 4 := by rw [bl_extract]
    have e4 := bl_tl (mor 0 ((bl s).take 2 ++ bodyOf (bl s)))
    rw [← e3, ← e4] at h3
    rw [toList_eq_iff]
    exact bl_inj h3
  clear e1 e2 hb6 h3
  generalize mor 0 ((bl s).take 2 ++ bodyOf (bl s)) = M at E2 ML cmp
  have n1 : len2 (bl s) ≠ 0 := by omega
  have n2 : len2 (bl s) ≤ 1024 := by omega
  have n3 : 6 + len2 (bl s) ≤ s.size := by omega
  clear h1 h2
  have Z2 : Hid (∀ r ∈ [s.extract 0 2, s.extract 6 (6 + len2 (bl s))], r.size ≤ 9223372036854775807) := Lib.hid (by
    intro r hr
    simp only [List.mem_cons, List.not_mem_nil, or_false] at hr
    rcases hr with rfl | rfl <;> rw [ByteArray.size_extract] <;> omega)
  generalize len2 (bl s) = n at N2 E2 Z2 n1 n2 n3 ⊢
  obtain ⟨b, hb⟩ : ∃ b, s.extract 6 (6 + n) = b := ⟨_, rfl⟩
  rw [hb] at E2 Z2
  try rw [hb]
  go_enter Tryz.func90, Tryz.ntmps90
  go_wp2_with fail
  refine (number_any (s.extract 0 2) _ (by rw [ByteArray.size_extract]; omega)).mono ?_
  rintro e vX ⟨rfl, rfl⟩
  rw [N2.out]
  clear N2
  have m1 : ¬ (1024 : Int) < (n : Int) := by omega
  have m2 : ((n : Int) == 0) = false := by rw [beq_eq_false_iff_ne]; omega
  have m3 : ¬ (n : Int) = 0 := by omega
  have m4 : ¬ (s.size : Int) < 6 + (n : Int) := by omega
  have m5 : 6 + (n : Int) ≤ (s.size : Int) := by omega
  have m6 : (6 : Int) ≤ 6 + (n : Int) := by omega
  have m7 : (6 + (n : Int)).toNat = 6 + n := by omega
  go_upto_region 10 with (fail)
  clear hb m7 m6 m5 m4
  refine wp_region_held (S := fun x => Below w.heap.size w x) (by kernel_rfl) ?_
  change wpAnyH _ _ _ _ _ _ _ _ w.drew
  have J0 : Below w.heap.size w w.drew := (Below.refl _ _).drew
  generalize w.drew = w1 at J0 ⊢
  refine held_take 0 (.string s) rfl (by kernel_rfl) (by kernel_rfl) (by kernel_rfl) (fun _ _ _ h => h) (Or.inl ⟨by rfl, fun x j => by go_simp⟩) J0 (fun K hK => ?_)
  go_simp
  refine hK _ _ ?_
  clear hK K
  refine held_take 1 (.string (s.extract 2 6)) rfl (by kernel_rfl) (by kernel_rfl) (by kernel_rfl) (fun _ _ _ h => h) (Or.inl ⟨by rfl, fun x j => by go_simp⟩) J0 (fun K hK => ?_)
  go_simp
  refine hK _ _ ?_
  clear hK K
  refine held_take 2 (.string (s.extract 0 2)) rfl (by kernel_rfl) (by kernel_rfl) (by kernel_rfl) (fun _ _ _ h => h) (Or.inl ⟨by rfl, fun x j => by go_simp⟩) J0 (fun K hK => ?_)
  go_simp
  refine hK _ _ ?_
  clear hK K
  refine held_take 3 (.string b) rfl (by kernel_rfl) (by kernel_rfl) (by kernel_rfl) (fun _ _ _ h => h) (Or.inl ⟨by rfl, fun x j => by go_simp⟩) J0 (fun K hK => ?_)
  go_simp
  refine hK _ _ ?_
  clear hK K
  refine held_one 4 (by kernel_rfl) (fun K hK => wpOp_in rfl rfl ?_)
  go_simp
  have J1 := J0.alloc J0.size (.cells #[.string (s.extract 0 2), .string b] 9)
  refine hK _ _ J1 ?_
  clear hK K
  refine held_one 5 (by kernel_rfl) (fun K hK => wpOp_in rfl rfl ?_)
  go_simp
  refine (of_any (two_strs _ _ _) (by simp) Z2.out).mono ?_
  rintro e wx ⟨rfl, rfl⟩
  rw [allB_two, E2.out]
  refine hK _ _ J1 ?_
  clear hK K
  refine held_one 6 (by kernel_rfl) (fun K hK => wpOp_in rfl rfl ?_)
  go_simp
  refine (tail_any _ _ ML.out).mono ?_
  rintro e w2 ⟨rfl, hb⟩
  have J2 := J1.trans (hb.mono J1.size)
  refine hK _ _ J2 ?_
  clear hb
  clear hK K
  refine held_take 7 (.bool false) rfl (by kernel_rfl) (by kernel_rfl) (by kernel_rfl) (fun _ _ _ h => h) (Or.inl ⟨by rfl, fun x j => by go_simp⟩) J2 (fun K hK => ?_)
  go_simp
  refine hK _ _ ?_
  clear hK K
  refine wpAnyH_done (by kernel_rfl) ?_ _
  go_wp2
  go_ret2
  exact ⟨rfl, J2⟩
set_option maxHeartbeats 600000 in
theorem bodyOf_sum (s : ByteArray) (w : World) (hs : s.size ≤ 1099511627776) (h : ¬ s.size < 6) (h1 : ¬ (len2 (bl s) = 0 ∨ 1024 < len2 (bl s))) (h2 : ¬ s.size < 6 + len2 (bl s)) (h3 : ((bl s).drop 2).take 4 ≠ le 4 (mor 0 ((bl s).take 2 ++ bodyOf (bl s)))) :
    Calls Tryz.prog 90 #[.string s] w fun e w' => e = .returned (.tuple #[.string ⟨#[]⟩, .int .i64 5]) ∧ Below w.heap.size w w' := by
  have l1 : 6 ≤ (s.size : Int) := by omega
  have l0 : ¬ (s.size : Int) < 6 := by omega
  have l2 : (2 : Int) ≤ (s.size : Int) := by omega
  have l3 : (2 : Int) ≤ 6 := by omega
  have N2 := Lib.hid (num2 s)
  have hb6 := body_text s h2
  have e1 : bl (s.extract 0 2) = (bl s).take 2 := by rw [bl_extract, List.drop_zero, Nat.sub_zero]
  have e2 : bl (s.extract 0 2) ++ bl (s.extract 6 (6 + len2 (bl s))) = (bl s).take 2 ++ bodyOf (bl s) := by rw [e1, hb6]
  have E2 : Hid (mor 0 (bl (s.extract 0 2) ++ bl (s.extract 6 (6 + len2 (bl s)))) = mor 0 ((bl s).take 2 ++ bodyOf (bl s))) := Lib.hid (by rw [e2])
  have ML := Lib.hid (show mor 0 ((bl s).take 2 ++ bodyOf (bl s)) < 4294967296 from mor_lt (by decide) (by rw [← e2]; exact fun x hx => (List.mem_append.1 hx).elim (bl_lt _ x) (bl_lt _ x)))
  have cmp : ((s.extract 2 6).toList == (tl (mor 0 ((bl s).take 2 ++ bodyOf (bl s)))).toList) = false := by
    have e3 : bl (s.extract 2 6) = ((bl s).drop 2).take 4 := by rw [bl_extract]
    have e4 := bl_tl (mor 0 ((bl s).take 2 ++ bodyOf (bl s)))
    rw [← e3, ← e4] at h3
    rw [Bool.eq_false_iff]
    intro c
    exact h3 (by rw [(toList_eq_iff _ _).1 c])
  clear e1 e2 hb6 h3
  generalize mor 0 ((bl s).take 2 ++ bodyOf (bl s)) = M at E2 ML cmp
  have n1 : len2 (bl s) ≠ 0 := by omega
  have n2 : len2 (bl s) ≤ 1024 := by omega
  have n3 : 6 + len2 (bl s) ≤ s.size := by omega
  clear h1 h2
  have Z2 : Hid (∀ r ∈ [s.extract 0 2, s.extract 6 (6 + len2 (bl s))], r.size ≤ 9223372036854775807) := Lib.hid (by
    intro r hr
    simp only [List.mem_cons, List.not_mem_nil, or_false] at hr
    rcases hr with rfl | rfl <;> rw [ByteArray.size_extract] <;> omega)
  generalize len2 (bl s) = n at N2 E2 Z2 n1 n2 n3 ⊢
  obtain ⟨b, hb⟩ : ∃ b, s.extract 6 (6 + n) = b := ⟨_, rfl⟩
  rw [hb] at E2 Z2
  try rw [hb]
  go_enter Tryz.func90, Tryz.ntmps90
  go_wp2_with fail
  refine (number_any (s.extract 0 2) _ (by rw [ByteArray.size_extract]; omega)).mono ?_
  rintro e vX ⟨rfl, rfl⟩
  rw [N2.out]
  clear N2
  have m1 : ¬ (1024 : Int) < (n : Int) := by omega
  have m2 : ((n : Int) == 0) = false := by rw [beq_eq_false_iff_ne]; omega
  have m3 : ¬ (n : Int) = 0 := by omega
  have m4 : ¬ (s.size : Int) < 6 + (n : Int) := by omega
  have m5 : 6 + (n : Int) ≤ (s.size : Int) := by omega
  have m6 : (6 : Int) ≤ 6 + (n : Int) := by omega
  have m7 : (6 + (n : Int)).toNat = 6 + n := by omega
  go_upto_region 10 with (fail)
  clear hb m7 m6 m5 m4
  refine wp_region_held (S := fun x => Below w.heap.size w x) (by kernel_rfl) ?_
  change wpAnyH _ _ _ _ _ _ _ _ w.drew
  have J0 : Below w.heap.size w w.drew := (Below.refl _ _).drew
  generalize w.drew = w1 at J0 ⊢
  refine held_take 0 (.string s) rfl (by kernel_rfl) (by kernel_rfl) (by kernel_rfl) (fun _ _ _ h => h) (Or.inl ⟨by rfl, fun x j => by go_simp⟩) J0 (fun K hK => ?_)
  go_simp
  refine hK _ _ ?_
  clear hK K
  refine held_take 1 (.string (s.extract 2 6)) rfl (by kernel_rfl) (by kernel_rfl) (by kernel_rfl) (fun _ _ _ h => h) (Or.inl ⟨by rfl, fun x j => by go_simp⟩) J0 (fun K hK => ?_)
  go_simp
  refine hK _ _ ?_
  clear hK K
  refine held_take 2 (.string (s.extract 0 2)) rfl (by kernel_rfl) (by kernel_rfl) (by kernel_rfl) (fun _ _ _ h => h) (Or.inl ⟨by rfl, fun x j => by go_simp⟩) J0 (fun K hK => ?_)
  go_simp
  refine hK _ _ ?_
  clear hK K
  refine held_take 3 (.string b) rfl (by kernel_rfl) (by kernel_rfl) (by kernel_rfl) (fun _ _ _ h => h) (Or.inl ⟨by rfl, fun x j => by go_simp⟩) J0 (fun K hK => ?_)
  go_simp
  refine hK _ _ ?_
  clear hK K
  refine held_one 4 (by kernel_rfl) (fun K hK => wpOp_in rfl rfl ?_)
  go_simp
  have J1 := J0.alloc J0.size (.cells #[.string (s.extract 0 2), .string b] 9)
  refine hK _ _ J1 ?_
  clear hK K
  refine held_one 5 (by kernel_rfl) (fun K hK => wpOp_in rfl rfl ?_)
  go_simp
  refine (of_any (two_strs _ _ _) (by simp) Z2.out).mono ?_
  rintro e wx ⟨rfl, rfl⟩
  rw [allB_two, E2.out]
  refine hK _ _ J1 ?_
  clear hK K
  refine held_one 6 (by kernel_rfl) (fun K hK => wpOp_in rfl rfl ?_)
  go_simp
  refine (tail_any _ _ ML.out).mono ?_
  rintro e w2 ⟨rfl, hb⟩
  have J2 := J1.trans (hb.mono J1.size)
  refine hK _ _ J2 ?_
  clear hb
  clear hK K
  refine held_take 7 (.bool true) rfl (by kernel_rfl) (by kernel_rfl) (by kernel_rfl) (fun _ _ _ h => h) (Or.inl ⟨by rfl, fun x j => by go_simp⟩) J2 (fun K hK => ?_)
  go_simp
  refine hK _ _ ?_
  clear hK K
  refine wpAnyH_done (by kernel_rfl) ?_ _
  go_wp2
  go_ret2
  exact ⟨rfl, J2⟩
end Go.Proofs.YtdmgobffhpgjlaaGreat.Sl
end

section
namespace Go.Proofs.YtdmgobffhpgjlaaGreat.Sl
open Go.RowKit Go.PlainAid Go.Proofs.YtdmgobffhpgjlaaGreat.Cr
set_option linter.unusedVariables false
set_option maxRecDepth 20000
set_option linter.unusedSimpArgs false

theorem results_three {P : Program} {fn : Func} {p q u : Tmp} {ty : TypeId} (h : fn.results = #[.cell p ty, .tmp q, .tmp u]) (tmps : Array Value) {w : World} {g : Nat} {cs : Array Value} {v v' : Value}
    (hp : tmps.getD p undef = .pointer (some ⟨g, 0, none⟩)) (hq : tmps.getD q undef = v) (hu : tmps.getD u undef = v') (hl : Loads P w ty ⟨g, 0, none⟩ cs) :
    (results fn tmps).run P w = .ok (.tuple #[.agg cs, v, v']) w := by
  have hp' : tmps[p]?.getD undef = .pointer (some ⟨g, 0, none⟩) := by simpa using hp
  have hq' : tmps[q]?.getD undef = v := by simpa using hq
  have hu' : tmps[u]?.getD undef = v' := by simpa using hu
  have hl' : (loadVar ty ⟨g, 0, none⟩).run P w = .ok (.agg cs) w := hl
  simp [results, h, hp', hq', hu', asAddr, hl']
/-- the answer's variable, made first -/
theorem ans_start (w : World) : ∃ R, R = w.heap.size ∧ ∀ W, W = w.alloc (.cells #[.int .i64 0, .string ⟨#[]⟩, .string ⟨#[]⟩, .int .u8 0, .int .u8 0, .int .u8 0, .int .u8 0, .int .u8 0, .int .u8 0, .int .u8 0, .int .u8 0, .int .u8 0, .int .u8 0, .int .u8 0, .int .u8 0, .int .u8 0, .int .u8 0, .int .u8 0, .int .u8 0, .int .u8 0, .int .u8 0, .int .u8 0, .int .u8 0, .int .u8 0, .int .u8 0, .int .u8 0, .int .u8 0, .int .u8 0, .int .u8 0, .int .u8 0, .int .u8 0, .int .u8 0, .int .u8 0, .int .u8 0, .int .u8 0, .string ⟨#[]⟩, .int .i64 0, .int .i64 0] 39) → At W R 39 (slV Sp.zero) ∧ Below w.heap.size w W := by
  refine ⟨_, rfl, fun W hW => ?_⟩
  subst hW
  rw [zslip]
  exact ⟨At.new _ _ _, (Below.refl _ _).alloc (Nat.le_refl _) _⟩
/-- nothing is laid into the answer -/
theorem zero_stores {w : World} {R : Nat} (h : At w R 39 (slV Sp.zero)) : Stores Tryz.prog w 39 R 0 #[.int .i64 0, .string ⟨#[]⟩, .string ⟨#[]⟩, .int .u8 0, .int .u8 0, .int .u8 0, .int .u8 0, .int .u8 0, .int .u8 0, .int .u8 0, .int .u8 0, .int .u8 0, .int .u8 0, .int .u8 0, .int .u8 0, .int .u8 0, .int .u8 0, .int .u8 0, .int .u8 0, .int .u8 0, .int .u8 0, .int .u8 0, .int .u8 0, .int .u8 0, .int .u8 0, .int .u8 0, .int .u8 0, .int .u8 0, .int .u8 0, .int .u8 0, .int .u8 0, .int .u8 0, .int .u8 0, .int .u8 0, .int .u8 0, .string ⟨#[]⟩, .int .i64 0, .int .i64 0] (w.setRow R (slV Sp.zero)) := by
  rw [zslip]
  exact sl_stores h zeros_dig.len zeros_dig.len
set_option maxHeartbeats 1000000 in
theorem read_err (s : ByteArray) (w : World) (n : Int) (hn : n ≠ 0) (hc : ∀ w, Calls Tryz.prog 90 #[.string s] w fun e w' => e = .returned (.tuple #[.string ⟨#[]⟩, .int .i64 n]) ∧ Below w.heap.size w w') :
    Calls Tryz.prog 67 #[.string s] w fun e w' => e = .returned (.tuple #[.agg (slV Sp.zero), .int .i64 0, .int .i64 n]) ∧ Below w.heap.size w w' := by
  obtain ⟨R, e0, st⟩ := ans_start w
  have E0 := Lib.hid e0; have ST := Lib.hid st
  clear e0 st
  have n1 : (n != 0) = true := by simpa using hn
  have HC := Lib.hid hc
  clear hc
  go_enter Tryz.func67, Tryz.ntmps67
  go_upto_region 1 with (fail)
  rw [← E0.out]
  obtain ⟨w1, hw1⟩ : ∃ w1, w1 = w.alloc (.cells #[.int .i64 0, .string ⟨#[]⟩, .string ⟨#[]⟩, .int .u8 0, .int .u8 0, .int .u8 0, .int .u8 0, .int .u8 0, .int .u8 0, .int .u8 0, .int .u8 0, .int .u8 0, .int .u8 0, .int .u8 0, .int .u8 0, .int .u8 0, .int .u8 0, .int .u8 0, .int .u8 0, .int .u8 0, .int .u8 0, .int .u8 0, .int .u8 0, .int .u8 0, .int .u8 0, .int .u8 0, .int .u8 0, .int .u8 0, .int .u8 0, .int .u8 0, .int .u8 0, .int .u8 0, .int .u8 0, .int .u8 0, .int .u8 0, .string ⟨#[]⟩, .int .i64 0, .int .i64 0] 39) := ⟨_, rfl⟩
  obtain ⟨hr, hb⟩ := ST.out _ hw1
  rw [← hw1]
  clear hw1 ST
  go_wp2_with fail
  refine (HC.out _).mono ?_
  rintro e w2 ⟨rfl, G⟩
  replace hr := hr.old G
  replace hb := hb.trans (G.mono hb.size)
  clear G HC
  have S := zero_stores hr
  have R1 := hr.row (slV Sp.zero)
  have F1 := below_row (B := R) (cs := slV Sp.zero) hb (by have := E0.out; omega)
  generalize w2.setRow R (slV Sp.zero) = w3 at S R1 F1
  go_wp2_with (refine wpl_store S rfl rfl rfl rfl rfl ?_)
  exact bodyPost_ret (results_three Tryz.results67 _ rfl rfl rfl (sl_loads R1 zeros_dig.len)) rfl ⟨rfl, F1⟩
theorem rs_okay {r : Rd} (h : r.rest.size ≤ 1099511627776) : Okay (rsX r) := by
  have a1 := tkR_le r 1
  have q1 := txR_le (rs1 r)
  have t : ∀ q : Rd, (txV q).size ≤ 255 := fun q => by
    have h1 := tkV_size (tkR q 1) (txN q)
    have h2 := txN_lt q
    unfold txV
    omega
  have z : none8.size ≤ 9223372036854775807 := by decide
  refine ⟨?_, ?_, ?_, ?_⟩
  · show (rT _ _).1.1.size ≤ _
    unfold rT; split
    · have := t (rs1 r); dsimp only; omega
    · exact z
  · show (rT _ _).1.2.size ≤ _
    unfold rT; split
    · have := t (txR (rs1 r)); dsimp only; omega
    · exact z
  · show (rM _ _).1.1.size ≤ _
    unfold rM; split
    · have := t (rs3 r); dsimp only; omega
    · exact z
  · show Dig (rD _ _).1
    unfold rD; split
    · exact dgV_dig _
    · exact zeros_dig
set_option maxHeartbeats 1000000 in
theorem read_torn (s b : ByteArray) (w : World) (hz : b.size ≤ 1099511627776) (hc : ∀ w, Calls Tryz.prog 90 #[.string s] w fun e w' => e = .returned (.tuple #[.string b, .int .i64 0]) ∧ Below w.heap.size w w') (ht : (rsR ⟨b, false⟩).torn = true) :
    Calls Tryz.prog 67 #[.string s] w fun e w' => e = .returned (.tuple #[.agg (slV Sp.zero), .int .i64 0, .int .i64 3]) ∧ Below w.heap.size w w' := by
  obtain ⟨R, e0, st⟩ := ans_start w
  have E0 := Lib.hid e0; have ST := Lib.hid st
  clear e0 st
  have HC := Lib.hid hc
  clear hc
  have ok := rs_okay (r := ⟨b, false⟩) hz
  have hxd := ok.dig.len
  generalize hX : rsX ⟨b, false⟩ = x at *
  generalize hQ : rsR ⟨b, false⟩ = q at *
  have HX := Lib.hid hX; have HQ := Lib.hid hQ
  clear hX hQ
  go_enter Tryz.func67, Tryz.ntmps67
  go_upto_region 1 with (fail)
  rw [← E0.out]
  obtain ⟨w1, hw1⟩ : ∃ w1, w1 = w.alloc (.cells #[.int .i64 0, .string ⟨#[]⟩, .string ⟨#[]⟩, .int .u8 0, .int .u8 0, .int .u8 0, .int .u8 0, .int .u8 0, .int .u8 0, .int .u8 0, .int .u8 0, .int .u8 0, .int .u8 0, .int .u8 0, .int .u8 0, .int .u8 0, .int .u8 0, .int .u8 0, .int .u8 0, .int .u8 0, .int .u8 0, .int .u8 0, .int .u8 0, .int .u8 0, .int .u8 0, .int .u8 0, .int .u8 0, .int .u8 0, .int .u8 0, .int .u8 0, .int .u8 0, .int .u8 0, .int .u8 0, .int .u8 0, .int .u8 0, .string ⟨#[]⟩, .int .i64 0, .int .i64 0] 39) := ⟨_, rfl⟩
  obtain ⟨hr, hb⟩ := ST.out _ hw1
  rw [← hw1]
  clear hw1 ST
  go_wp2_with fail
  refine (HC.out _).mono ?_
  rintro e w2 ⟨rfl, G⟩
  replace hr := hr.old G
  have HRL := Lib.hid hr.lt
  replace hb := hb.trans (G.mono hb.size)
  clear G HC
  obtain ⟨w3, S3, hd, G3, Z3⟩ := keep (P := Tryz.prog) (ty := 141) w2 #[.string ⟨#[]⟩, .bool false] (rdV ⟨b, false⟩) 141 (by kernel_rfl) rfl (by simp [rdV, Value.oneCell'])
  replace hr := hr.old G3
  replace hb := hb.trans (G3.mono hb.size)
  have hRD : R ≠ w2.heap.size := by have := HRL.out; omega
  have hDn : w.heap.size ≤ w2.heap.size := by have := HRL.out; have := E0.out; omega
  clear G3 Z3
  go_upto_region 5 with (refine wpl_store S3 rfl rfl rfl rfl rfl ?_)
  clear S3
  generalize w2.heap.size = D at hd hRD hDn ⊢
  go_wp2_with fail
  refine (rslip_any hd hz).mono ?_
  rintro e w4 ⟨rfl, hd4, T4⟩
  rw [HX.out]
  rw [HQ.out] at hd4
  replace hr := hr.turns T4 hRD
  replace hb := T4.below hb hb.size hDn
  clear hd T4
  obtain ⟨w5, S5, hx, G5, Z5⟩ := x_keep w4 hxd
  have hne5 : R ≠ w4.heap.size := by have := hr.lt; omega
  replace hr := hr.old G5
  replace hd4 := hd4.old G5
  replace hb := hb.trans (G5.mono hb.size)
  clear G5 Z5
  go_upto_region 6 with (refine wpl_store S5 rfl rfl rfl rfl rfl ?_)
  clear S5
  generalize w4.heap.size = X at hx hne5 ⊢
  have c0 : w5.cell? ⟨D, 0, none⟩ = some (.string q.rest) := hd4.cell 0
  have c1 : w5.cell? ⟨D, 1, none⟩ = some (.bool true) := by rw [hd4.cell]; show some (Value.bool q.torn) = _; rw [ht]
  have S := zero_stores hr
  have R1 := hr.row (slV Sp.zero)
  have F1 := below_row (B := R) (cs := slV Sp.zero) hb (by have := E0.out; omega)
  generalize w5.setRow R (slV Sp.zero) = w7 at S R1 F1
  go_wp2_with (refine wpl_store S rfl rfl rfl rfl rfl ?_)
  exact bodyPost_ret (results_three Tryz.results67 _ rfl rfl rfl (sl_loads R1 zeros_dig.len)) rfl ⟨rfl, F1⟩
set_option maxHeartbeats 1000000 in
theorem read_left (s b : ByteArray) (w : World) (hz : b.size ≤ 1099511627776) (hc : ∀ w, Calls Tryz.prog 90 #[.string s] w fun e w' => e = .returned (.tuple #[.string b, .int .i64 0]) ∧ Below w.heap.size w w') (ht : (rsR ⟨b, false⟩).torn = false) (hl : (rsR ⟨b, false⟩).rest ≠ none8) :
    Calls Tryz.prog 67 #[.string s] w fun e w' => e = .returned (.tuple #[.agg (slV Sp.zero), .int .i64 0, .int .i64 3]) ∧ Below w.heap.size w w' := by
  obtain ⟨R, e0, st⟩ := ans_start w
  have E0 := Lib.hid e0; have ST := Lib.hid st
  clear e0 st
  have HC := Lib.hid hc
  clear hc
  have ok := rs_okay (r := ⟨b, false⟩) hz
  have hxd := ok.dig.len
  generalize hX : rsX ⟨b, false⟩ = x at *
  generalize hQ : rsR ⟨b, false⟩ = q at *
  have HX := Lib.hid hX; have HQ := Lib.hid hQ
  clear hX hQ
  go_enter Tryz.func67, Tryz.ntmps67
  go_upto_region 1 with (fail)
  rw [← E0.out]
  obtain ⟨w1, hw1⟩ : ∃ w1, w1 = w.alloc (.cells #[.int .i64 0, .string ⟨#[]⟩, .string ⟨#[]⟩, .int .u8 0, .int .u8 0, .int .u8 0, .int .u8 0, .int .u8 0, .int .u8 0, .int .u8 0, .int .u8 0, .int .u8 0, .int .u8 0, .int .u8 0, .int .u8 0, .int .u8 0, .int .u8 0, .int .u8 0, .int .u8 0, .int .u8 0, .int .u8 0, .int .u8 0, .int .u8 0, .int .u8 0, .int .u8 0, .int .u8 0, .int .u8 0, .int .u8 0, .int .u8 0, .int .u8 0, .int .u8 0, .int .u8 0, .int .u8 0, .int .u8 0, .int .u8 0, .string ⟨#[]⟩, .int .i64 0, .int .i64 0] 39) := ⟨_, rfl⟩
  obtain ⟨hr, hb⟩ := ST.out _ hw1
  rw [← hw1]
  clear hw1 ST
  go_wp2_with fail
  refine (HC.out _).mono ?_
  rintro e w2 ⟨rfl, G⟩
  replace hr := hr.old G
  have HRL := Lib.hid hr.lt
  replace hb := hb.trans (G.mono hb.size)
  clear G HC
  obtain ⟨w3, S3, hd, G3, Z3⟩ := keep (P := Tryz.prog) (ty := 141) w2 #[.string ⟨#[]⟩, .bool false] (rdV ⟨b, false⟩) 141 (by kernel_rfl) rfl (by simp [rdV, Value.oneCell'])
  replace hr := hr.old G3
  replace hb := hb.trans (G3.mono hb.size)
  have hRD : R ≠ w2.heap.size := by have := HRL.out; omega
  have hDn : w.heap.size ≤ w2.heap.size := by have := HRL.out; have := E0.out; omega
  clear G3 Z3
  go_upto_region 5 with (refine wpl_store S3 rfl rfl rfl rfl rfl ?_)
  clear S3
  generalize w2.heap.size = D at hd hRD hDn ⊢
  go_wp2_with fail
  refine (rslip_any hd hz).mono ?_
  rintro e w4 ⟨rfl, hd4, T4⟩
  rw [HX.out]
  rw [HQ.out] at hd4
  replace hr := hr.turns T4 hRD
  replace hb := T4.below hb hb.size hDn
  clear hd T4
  obtain ⟨w5, S5, hx, G5, Z5⟩ := x_keep w4 hxd
  have hne5 : R ≠ w4.heap.size := by have := hr.lt; omega
  replace hr := hr.old G5
  replace hd4 := hd4.old G5
  replace hb := hb.trans (G5.mono hb.size)
  clear G5 Z5
  go_upto_region 6 with (refine wpl_store S5 rfl rfl rfl rfl rfl ?_)
  clear S5
  generalize w4.heap.size = X at hx hne5 ⊢
  have c0 : w5.cell? ⟨D, 0, none⟩ = some (.string q.rest) := hd4.cell 0
  have c1 : w5.cell? ⟨D, 1, none⟩ = some (.bool false) := by rw [hd4.cell]; show some (Value.bool q.torn) = _; rw [ht]
  have ne : (q.rest.toList != []) = true := by
    simp only [bne_iff_ne, ne_eq]
    intro c
    apply hl
    apply ByteArray.ext
    rw [ByteArray.toList_eq] at c
    exact Array.toList_eq_nil_iff.1 c
  have ne2 : ¬ q.rest.toList = [] := by simpa using ne
  have ne3 : (q.rest.toList != (⟨#[]⟩ : ByteArray).toList) = true := by rw [show (⟨#[]⟩ : ByteArray).toList = [] by rw [ByteArray.toList_eq]]; exact ne
  have S := zero_stores hr
  have R1 := hr.row (slV Sp.zero)
  have F1 := below_row (B := R) (cs := slV Sp.zero) hb (by have := E0.out; omega)
  generalize w5.setRow R (slV Sp.zero) = w7 at S R1 F1
  go_wp2_with (refine wpl_store S rfl rfl rfl rfl rfl ?_)
  exact bodyPost_ret (results_three Tryz.results67 _ rfl rfl rfl (sl_loads R1 zeros_dig.len)) rfl ⟨rfl, F1⟩
set_option maxHeartbeats 1000000 in
theorem read_form (s b : ByteArray) (w : World) (hz : b.size ≤ 1099511627776) (hc : ∀ w, Calls Tryz.prog 90 #[.string s] w fun e w' => e = .returned (.tuple #[.string b, .int .i64 0]) ∧ Below w.heap.size w w') (ht : (rsR ⟨b, false⟩).torn = false) (hl : (rsR ⟨b, false⟩).rest = none8) (hcan : ¬ Can (rsX ⟨b, false⟩)) :
    Calls Tryz.prog 67 #[.string s] w fun e w' => e = .returned (.tuple #[.agg (slV Sp.zero), .int .i64 0, .int .i64 3]) ∧ Below w.heap.size w w' := by
  obtain ⟨R, e0, st⟩ := ans_start w
  have E0 := Lib.hid e0; have ST := Lib.hid st
  clear e0 st
  have HC := Lib.hid hc
  clear hc
  have ok := rs_okay (r := ⟨b, false⟩) hz
  have hxd := ok.dig.len
  generalize hX : rsX ⟨b, false⟩ = x at *
  generalize hQ : rsR ⟨b, false⟩ = q at *
  have HX := Lib.hid hX; have HQ := Lib.hid hQ
  clear hX hQ
  go_enter Tryz.func67, Tryz.ntmps67
  go_upto_region 1 with (fail)
  rw [← E0.out]
  obtain ⟨w1, hw1⟩ : ∃ w1, w1 = w.alloc (.cells #[.int .i64 0, .string ⟨#[]⟩, .string ⟨#[]⟩, .int .u8 0, .int .u8 0, .int .u8 0, .int .u8 0, .int .u8 0, .int .u8 0, .int .u8 0, .int .u8 0, .int .u8 0, .int .u8 0, .int .u8 0, .int .u8 0, .int .u8 0, .int .u8 0, .int .u8 0, .int .u8 0, .int .u8 0, .int .u8 0, .int .u8 0, .int .u8 0, .int .u8 0, .int .u8 0, .int .u8 0, .int .u8 0, .int .u8 0, .int .u8 0, .int .u8 0, .int .u8 0, .int .u8 0, .int .u8 0, .int .u8 0, .int .u8 0, .string ⟨#[]⟩, .int .i64 0, .int .i64 0] 39) := ⟨_, rfl⟩
  obtain ⟨hr, hb⟩ := ST.out _ hw1
  rw [← hw1]
  clear hw1 ST
  go_wp2_with fail
  refine (HC.out _).mono ?_
  rintro e w2 ⟨rfl, G⟩
  replace hr := hr.old G
  have HRL := Lib.hid hr.lt
  replace hb := hb.trans (G.mono hb.size)
  clear G HC
  obtain ⟨w3, S3, hd, G3, Z3⟩ := keep (P := Tryz.prog) (ty := 141) w2 #[.string ⟨#[]⟩, .bool false] (rdV ⟨b, false⟩) 141 (by kernel_rfl) rfl (by simp [rdV, Value.oneCell'])
  replace hr := hr.old G3
  replace hb := hb.trans (G3.mono hb.size)
  have hRD : R ≠ w2.heap.size := by have := HRL.out; omega
  have hDn : w.heap.size ≤ w2.heap.size := by have := HRL.out; have := E0.out; omega
  clear G3 Z3
  go_upto_region 5 with (refine wpl_store S3 rfl rfl rfl rfl rfl ?_)
  clear S3
  generalize w2.heap.size = D at hd hRD hDn ⊢
  go_wp2_with fail
  refine (rslip_any hd hz).mono ?_
  rintro e w4 ⟨rfl, hd4, T4⟩
  rw [HX.out]
  rw [HQ.out] at hd4
  replace hr := hr.turns T4 hRD
  replace hb := T4.below hb hb.size hDn
  clear hd T4
  obtain ⟨w5, S5, hx, G5, Z5⟩ := x_keep w4 hxd
  have hne5 : R ≠ w4.heap.size := by have := hr.lt; omega
  replace hr := hr.old G5
  replace hd4 := hd4.old G5
  replace hb := hb.trans (G5.mono hb.size)
  clear G5 Z5
  go_upto_region 6 with (refine wpl_store S5 rfl rfl rfl rfl rfl ?_)
  clear S5
  generalize w4.heap.size = X at hx hne5 ⊢
  have c0 : w5.cell? ⟨D, 0, none⟩ = some (.string q.rest) := hd4.cell 0
  have c1 : w5.cell? ⟨D, 1, none⟩ = some (.bool false) := by rw [hd4.cell]; show some (Value.bool q.torn) = _; rw [ht]
  rw [hl] at c0
  have nz : none8.toList.isEmpty = true := by rw [ByteArray.toList_eq]; rfl
  have LX := sl_loads hx hxd
  go_wp2_with (refine wpl_load_in LX rfl rfl rfl ?_)
  refine (good_any x _ ok).mono ?_
  rintro e w6 ⟨rfl, G6⟩
  rw [canB_no hcan]
  replace hr := hr.old G6
  replace hx := hx.old G6
  replace hb := hb.trans (G6.mono hb.size)
  clear LX c0 c1 hd4 G6
  have S := zero_stores hr
  have R1 := hr.row (slV Sp.zero)
  have F1 := below_row (B := R) (cs := slV Sp.zero) hb (by have := E0.out; omega)
  generalize w6.setRow R (slV Sp.zero) = w7 at S R1 F1
  go_wp2_with (refine wpl_store S rfl rfl rfl rfl rfl ?_)
  exact bodyPost_ret (results_three Tryz.results67 _ rfl rfl rfl (sl_loads R1 zeros_dig.len)) rfl ⟨rfl, F1⟩
set_option maxHeartbeats 1000000 in
theorem read_yes (s b : ByteArray) (w : World) (hz : b.size ≤ 1099511627776) (hc : ∀ w, Calls Tryz.prog 90 #[.string s] w fun e w' => e = .returned (.tuple #[.string b, .int .i64 0]) ∧ Below w.heap.size w w') (ht : (rsR ⟨b, false⟩).torn = false) (hl : (rsR ⟨b, false⟩).rest = none8) (hcan : Can (rsX ⟨b, false⟩)) :
    Calls Tryz.prog 67 #[.string s] w fun e w' => e = .returned (.tuple #[.agg (slV (rsX ⟨b, false⟩)), .int .i64 ((6 + b.size : Nat) : Int), .int .i64 0]) ∧ Below w.heap.size w w' := by
  obtain ⟨R, e0, st⟩ := ans_start w
  have E0 := Lib.hid e0; have ST := Lib.hid st
  clear e0 st
  have HC := Lib.hid hc
  clear hc
  have ok := rs_okay (r := ⟨b, false⟩) hz
  have hxd := ok.dig.len
  generalize hX : rsX ⟨b, false⟩ = x at *
  generalize hQ : rsR ⟨b, false⟩ = q at *
  have HX := Lib.hid hX; have HQ := Lib.hid hQ
  clear hX hQ
  go_enter Tryz.func67, Tryz.ntmps67
  go_upto_region 1 with (fail)
  rw [← E0.out]
  obtain ⟨w1, hw1⟩ : ∃ w1, w1 = w.alloc (.cells #[.int .i64 0, .string ⟨#[]⟩, .string ⟨#[]⟩, .int .u8 0, .int .u8 0, .int .u8 0, .int .u8 0, .int .u8 0, .int .u8 0, .int .u8 0, .int .u8 0, .int .u8 0, .int .u8 0, .int .u8 0, .int .u8 0, .int .u8 0, .int .u8 0, .int .u8 0, .int .u8 0, .int .u8 0, .int .u8 0, .int .u8 0, .int .u8 0, .int .u8 0, .int .u8 0, .int .u8 0, .int .u8 0, .int .u8 0, .int .u8 0, .int .u8 0, .int .u8 0, .int .u8 0, .int .u8 0, .int .u8 0, .int .u8 0, .string ⟨#[]⟩, .int .i64 0, .int .i64 0] 39) := ⟨_, rfl⟩
  obtain ⟨hr, hb⟩ := ST.out _ hw1
  rw [← hw1]
  clear hw1 ST
  go_wp2_with fail
  refine (HC.out _).mono ?_
  rintro e w2 ⟨rfl, G⟩
  replace hr := hr.old G
  have HRL := Lib.hid hr.lt
  replace hb := hb.trans (G.mono hb.size)
  clear G HC
  obtain ⟨w3, S3, hd, G3, Z3⟩ := keep (P := Tryz.prog) (ty := 141) w2 #[.string ⟨#[]⟩, .bool false] (rdV ⟨b, false⟩) 141 (by kernel_rfl) rfl (by simp [rdV, Value.oneCell'])
  replace hr := hr.old G3
  replace hb := hb.trans (G3.mono hb.size)
  have hRD : R ≠ w2.heap.size := by have := HRL.out; omega
  have hDn : w.heap.size ≤ w2.heap.size := by have := HRL.out; have := E0.out; omega
  clear G3 Z3
  go_upto_region 5 with (refine wpl_store S3 rfl rfl rfl rfl rfl ?_)
  clear S3
  generalize w2.heap.size = D at hd hRD hDn ⊢
  go_wp2_with fail
  refine (rslip_any hd hz).mono ?_
  rintro e w4 ⟨rfl, hd4, T4⟩
  rw [HX.out]
  rw [HQ.out] at hd4
  replace hr := hr.turns T4 hRD
  replace hb := T4.below hb hb.size hDn
  clear hd T4
  obtain ⟨w5, S5, hx, G5, Z5⟩ := x_keep w4 hxd
  have hne5 : R ≠ w4.heap.size := by have := hr.lt; omega
  replace hr := hr.old G5
  replace hd4 := hd4.old G5
  replace hb := hb.trans (G5.mono hb.size)
  clear G5 Z5
  go_upto_region 6 with (refine wpl_store S5 rfl rfl rfl rfl rfl ?_)
  clear S5
  generalize w4.heap.size = X at hx hne5 ⊢
  have c0 : w5.cell? ⟨D, 0, none⟩ = some (.string q.rest) := hd4.cell 0
  have c1 : w5.cell? ⟨D, 1, none⟩ = some (.bool false) := by rw [hd4.cell]; show some (Value.bool q.torn) = _; rw [ht]
  rw [hl] at c0
  have nz : none8.toList.isEmpty = true := by rw [ByteArray.toList_eq]; rfl
  have LX := sl_loads hx hxd
  go_wp2_with (refine wpl_load_in LX rfl rfl rfl ?_)
  refine (good_any x _ ok).mono ?_
  rintro e w6 ⟨rfl, G6⟩
  rw [canB_yes hcan]
  replace hr := hr.old G6
  replace hx := hx.old G6
  replace hb := hb.trans (G6.mono hb.size)
  clear LX c0 c1 hd4 G6
  have LX := sl_loads hx hxd
  have S := sl_stores hr zeros_dig.len hxd
  have R1 := hr.row (slV x)
  have F1 := below_row (B := R) (cs := slV x) hb (by have := E0.out; omega)
  generalize w6.setRow R (slV x) = w7 at S R1 F1
  go_wp2_with (first | refine wpl_load LX rfl rfl rfl ?_ | refine wpl_store S rfl rfl rfl rfl rfl ?_)
  exact bodyPost_ret (results_three Tryz.results67 _ rfl rfl rfl (sl_loads R1 hxd)) rfl ⟨by rw [show ((6 + b.size : Nat) : Int) = 6 + (b.size : Int) by omega]; rfl, F1⟩
theorem read_any (s : ByteArray) (w : World) (hs : s.size ≤ 1099511627776) :
    Calls Tryz.prog 67 #[.string s] w fun e w' => e = .returned (.tuple #[.agg (slV (RD (bl s)).1), .int .i64 (RD (bl s)).2.1, .int .i64 (RD (bl s)).2.2]) ∧ Below w.heap.size w w' := by
  have hl := bl_len s
  by_cases c1 : s.size < 6
  · rw [rd_few (l := bl s) (by omega)]
    exact read_err s w 17 (by decide) fun w => bodyOf_few s w hs c1
  by_cases c2 : len2 (bl s) = 0 ∨ 1024 < len2 (bl s)
  · rw [rd_none (l := bl s) (by omega) c2]
    exact read_err s w 3 (by decide) fun w => bodyOf_none s w hs c1 c2
  by_cases c3 : s.size < 6 + len2 (bl s)
  · rw [rd_short (l := bl s) (by omega) c2 (by omega)]
    exact read_err s w 17 (by decide) fun w => bodyOf_short s w hs c1 c2 c3
  by_cases c4 : ((bl s).drop 2).take 4 = le 4 (mor 0 ((bl s).take 2 ++ bodyOf (bl s)))
  · have hc := fun w => bodyOf_yes s w hs c1 c2 c3 c4
    have hb := body_text s c3
    have hsz : (s.extract 6 (6 + len2 (bl s))).size = len2 (bl s) := by rw [ByteArray.size_extract]; omega
    generalize s.extract 6 (6 + len2 (bl s)) = b at hc hb hsz
    have hz : b.size ≤ 1099511627776 := by omega
    have none : (∀ x, Can x → bodyL x ≠ bodyOf (bl s)) → RD (bl s) = (Sp.zero, 0, 3) := fun h => rd_form (by omega) c2 (by omega) c4 h
    cases ht : (rsR ⟨b, false⟩).torn with
    | true =>
      rw [none fun x hx e => by
        have := rs_app hx (hb.trans e.symm)
        rw [this.2.1] at ht
        cases ht]
      exact read_torn s b w hz hc ht
    | false =>
      by_cases hl' : (rsR ⟨b, false⟩).rest = none8
      · by_cases hcan : Can (rsX ⟨b, false⟩)
        · have e := rs_inv ht hl' hcan
          rw [rd_yes (l := bl s) (by omega) c2 (by omega) c4 hcan (e.symm.trans hb), ← hsz]
          exact read_yes s b w hz hc ht hl' hcan
        · rw [none fun x hx e => by
            have := rs_app hx (hb.trans e.symm)
            rw [this.1] at hcan
            exact hcan hx]
          exact read_form s b w hz hc ht hl' hcan
      · rw [none fun x hx e => hl' (rs_app hx (hb.trans e.symm)).2.2]
        exact read_left s b w hz hc ht hl'
  · rw [rd_sum (l := bl s) (by omega) c2 (by omega) c4]
    exact read_err s w 5 (by decide) fun w => bodyOf_sum s w hs c1 c2 c3 c4
end Go.Proofs.YtdmgobffhpgjlaaGreat.Sl
end
