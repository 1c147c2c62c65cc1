/-
  Contracts of strings.Clone and of the reader's take and text.
-/
import Derived.Test.YtdmgobffhpgjlaaGreatSlWrite
import Derived.Lib.BufferWrite

namespace Go.Proofs.YtdmgobffhpgjlaaGreat.Sl
open Go.RowKit Go.PlainAid Go.Proofs.YtdmgobffhpgjlaaGreat.Cr
set_option linter.unusedVariables false
set_option maxRecDepth 20000
set_option linter.unusedSimpArgs false

section
variable {P : Program} {ops : Array Oper} {rest : List Oper} {o : Oper} {a : Act} {w w' : World} {Q : Exit → Act → World → Prop} {t u : TypeId} {x y : Operand} {v vy r : Value}
theorem wpl_copy (hr : ∀ ty, (Builtin.copy_ #[t, u] ty #[v, vy]).run P w = .ok r w') (hgd : o.guard = none) (hop : o.op = .call { callee := .builtin .copy, args := #[x, y], argTypes := #[t, u] }) (hx : a.eval x = v) (hy : a.eval y = vy) (h : wpList P ops Q rest (a.put o.dst r) w') : wpList P ops Q (o :: rest) a w :=
  wpList_plain hgd fun _ hK => by
    unfold Oper.wp execOp
    simp only [hop, resolve, invoke, builtin, Sem.run_bind, Sem.run_pure, Result.andThen_ok, List.map_toArray, List.map_cons, List.map_nil, hx, hy, hr]
    exact hK _ _ h
end
theorem empty_of {s : ByteArray} (h : s.size = 0) : s = ⟨#[]⟩ := by
  apply ByteArray.ext
  exact Array.eq_empty_of_size_eq_zero h
set_option maxHeartbeats 2000000 in
theorem clone_low (s : ByteArray) (w : World) (hs : s.size ≤ 1099511627776) :
    Calls Tryz.prog 132 #[.string s] w fun e w' => e = .returned (.string s) ∧ Below w.heap.size w w' := by
  by_cases h0 : s.size = 0
  · have e := empty_of h0
    subst e
    clear h0
    go_enter Tryz.func132, Tryz.ntmps132
    go_wp2
    go_ret
    exact ⟨rfl, Below.refl _ _⟩
  · obtain ⟨i0, hi, hz0, hz1, hz2⟩ := info_parts infoB
    have l1 : ((s.size : Int) == 0) = false := by rw [beq_eq_false_iff_ne]; omega
    have l2 : ¬ (s.size : Int) = 0 := by omega
    go_enter Tryz.func132, Tryz.ntmps132
    go_upto_region 4 with (at_make; refine wpList_make_full _ rfl _ _ 87 rfl w.heap.size 5 i0 (.int .u8 0) 1 Tryz.underlying87 hi hz0 hz1 .i64 .i64 _ _ s.size rfl rfl (by omega) (by omega) (by rw [hz2]; omega) (by unfold maxLen; omega) (Nat.le_refl _) ?_; intro w1 hown hgrow)
    obtain ⟨cur, hg, hcs⟩ : ∃ cur, w1.heap[w.heap.size]? = some (.cells cur 5 (0, 0)) ∧ cur.size = s.size := by
      rcases hown.2 with ⟨e, _⟩ | ⟨g, cap, cur, e, _, hg, _, _, hc, _⟩
      · cases e
      · injection e with e1 _ e3
        injection e1 with e1
        injection e1 with e1
        subst e1 e3
        exact ⟨cur, hg, by simpa using hc⟩
    have F : Below w.heap.size w w1 := (Below.refl _ _).grown hgrow (Nat.le_refl _) (fun k h => by cases h)
    have hcp := fun ty => Lib.run_copy_row_string (P := Tryz.prog) w1 87 9 ty 5 w.heap.size 0 s.size s.size s cur 5 Tryz.underlying87 (by kernel_rfl) hg (Nat.le_refl _) (by omega)
    have e2 : (cur.toList.take 0 ++ Lib.byteCells s.data.toList ++ cur.toList.drop (0 + s.size)).toArray = (Lib.byteCells s.data.toList).toArray := by
      rw [Nat.zero_add, List.drop_of_length_le (by simp; omega)]
      simp
    rw [e2] at hcp
    have H2 := setRow_heap w1 w.heap.size cur (Lib.byteCells s.data.toList).toArray 5 (0, 0) hg
    have F2 : Below w.heap.size w (w1.setRow w.heap.size (Lib.byteCells s.data.toList).toArray) := below_row F (Nat.le_refl _)
    clear e2 hg hown hgrow F hcs
    generalize w1.setRow w.heap.size (Lib.byteCells s.data.toList).toArray = w2 at hcp H2 F2
    have hlen : s.data.toList.length = s.size := by simp
    have hUS := Lib.run_unsafeString_row (P := Tryz.prog) w2 155 3 9 5 Tryz.underlying155 (by kernel_rfl) w.heap.size s.size (by simp [World.shape?, H2, Lib.byteCells]) s.data.toList (by intro c; rw [c] at hlen; simp at hlen; omega) (by omega) (by omega) (by
      intro j x hx
      rw [add_at, Nat.zero_add, cell_of_row _ _ _ _ _ _ H2]
      simp [Lib.byteCells, hx])
    rw [hlen] at hUS
    have e3 : (⟨s.data.toList.toArray⟩ : ByteArray) = s := by simp
    rw [e3] at hUS
    have F3 := Lib.below_freeze F2 (p := ⟨w.heap.size, 0, none⟩) (Nat.le_refl _) s.size
    clear e3 hlen F2 H2
    have l3 : (0 : Int) < (s.size : Int) := by omega
    go_wp2_with (refine wpl_copy hcp rfl rfl rfl rfl ?_)
    go_ret
    exact ⟨rfl, F3⟩
theorem clone_any (s : ByteArray) (w : World) (hs : s.size ≤ 1099511627776) :
    Calls Tryz.prog 124 #[.string s] w fun e w' => e = .returned (.string s) ∧ Below w.heap.size w w' := by
  go_enter Tryz.func124, Tryz.ntmps124
  go_wp2_with fail
  refine (clone_low s _ hs).mono ?_
  rintro e w1 ⟨rfl, G⟩
  go_wp2
  go_ret
  exact ⟨rfl, G⟩

/-! ### the reader -/
structure Rd where
  rest : ByteArray
  torn : Bool
def rdV (r : Rd) : Array Value := #[.string r.rest, .bool r.torn]
def tkV (r : Rd) (n : Nat) : ByteArray := if r.rest.size < n then ⟨#[]⟩ else r.rest.extract 0 n
def tkR (r : Rd) (n : Nat) : Rd := if r.rest.size < n then ⟨r.rest, true⟩ else ⟨r.rest.extract n r.rest.size, r.torn⟩
/-- below its size nothing but block B has turned -/
def Turns (B : Nat) (w w' : World) : Prop := Keeps B w.heap.size w w'
theorem Turns.trans {B : Nat} {x y z : World} (h : Turns B x y) (k : Turns B y z) : Turns B x z := Keeps.trans h (Keeps.mono k h.size)
theorem Turns.of_below {B : Nat} {w w' : World} (h : Below w.heap.size w w') : Turns B w w' := Keeps.of_below h
theorem At.turns {B b T : Nat} {w w' : World} {cs : Array Value} (h : At w B T cs) (k : Turns b w w') (hb : B ≠ b) : At w' B T cs := h.same (k.block B h.lt hb)
theorem Turns.below {B M : Nat} {w0 w w' : World} (h : Turns B w w') (hb : Below M w0 w) (hM : M ≤ w.heap.size) (hB : M ≤ B) : Below M w0 w' := Keeps.below h hb hM hB
set_option maxHeartbeats 1000000 in
theorem take_any {w : World} {B : Nat} {r : Rd} (h : At w B 141 (rdV r)) (n : Nat) (hz : r.rest.size ≤ 1099511627776) (hn : n ≤ 1000) :
    Calls Tryz.prog 107 #[.pointer (some ⟨B, 0, none⟩), .int .i64 (n : Int)] w fun e w' => e = .returned (.string (tkV r n)) ∧ At w' B 141 (rdV (tkR r n)) ∧ Turns B w w' := by
  have c0 : w.cell? ⟨B, 0, none⟩ = some (.string r.rest) := h.cell 0
  have c1 : w.cell? ⟨B, 1, none⟩ = some (.bool r.torn) := h.cell 1
  have f0 := h.frozen 0
  have f1 := h.frozen 1
  by_cases c : r.rest.size < n
  · have e1 : tkV r n = ⟨#[]⟩ := by unfold tkV; rw [if_pos c]
    have e2 : tkR r n = ⟨r.rest, true⟩ := by unfold tkR; rw [if_pos c]
    have H := h.set 1 (.bool true)
    rw [e1, e2]
    have l1 : (r.rest.size : Int) < (n : Int) := by omega
    clear h
    go_enter Tryz.func107, Tryz.ntmps107
    go_wp2
    go_ret
    exact ⟨rfl, H, Keeps.set w 1 _⟩
  · have e1 : tkV r n = r.rest.extract 0 n := by unfold tkV; rw [if_neg c]
    have e2 : tkR r n = ⟨r.rest.extract n r.rest.size, r.torn⟩ := by unfold tkR; rw [if_neg c]
    have H := h.set 0 (.string (r.rest.extract n r.rest.size))
    rw [e1, e2]
    have l1 : (n : Int) ≤ (r.rest.size : Int) := by omega
    have l2 : (0 : Int) ≤ (n : Int) := by omega
    clear h
    go_enter Tryz.func107, Tryz.ntmps107
    go_wp2
    go_ret
    exact ⟨rfl, H, Keeps.set w 0 _⟩
theorem tkV_size (r : Rd) (n : Nat) : (tkV r n).size ≤ n := by
  unfold tkV
  split
  · exact Nat.zero_le _
  · rw [ByteArray.size_extract]; omega
theorem tkR_le (r : Rd) (n : Nat) : (tkR r n).rest.size ≤ r.rest.size := by
  unfold tkR
  split
  · exact Nat.le_refl _
  · rw [ByteArray.size_extract]; omega
/-- a text's length, its bytes, what is left behind it -/
def txN (r : Rd) : Nat := bN (bl (tkV r 1))
def txV (r : Rd) : ByteArray := tkV (tkR r 1) (txN r)
def txR (r : Rd) : Rd := tkR (tkR r 1) (txN r)
theorem txN_lt (r : Rd) : txN r < 256 := by
  have h := bN_lt (bl (tkV r 1)) (bl_lt _)
  rw [bl_len] at h
  have h2 := tkV_size r 1
  have : 256 ^ (tkV r 1).size ≤ 256 ^ 1 := Nat.pow_le_pow_right (by decide) h2
  exact Nat.lt_of_lt_of_le h this
theorem txR_le (r : Rd) : (txR r).rest.size ≤ r.rest.size := Nat.le_trans (tkR_le _ _) (tkR_le _ _)
/-- a number of so many bytes -/
def nb (r : Rd) (m : Nat) : Int := IntKind.i64.wrap (bN (bl (tkV r m)) : Int)
theorem nb_one (r : Rd) : nb r 1 = (txN r : Int) := by
  have := txN_lt r
  unfold nb
  rw [i64_is, show bN (bl (tkV r 1)) = txN r from rfl]
  unfold wrap64
  omega
set_option maxHeartbeats 1000000 in
theorem rtext_any {w : World} {B : Nat} {r : Rd} (h : At w B 141 (rdV r)) (hz : r.rest.size ≤ 1099511627776) :
    Calls Tryz.prog 108 #[.pointer (some ⟨B, 0, none⟩)] w fun e w' => e = .returned (.string (txV r)) ∧ At w' B 141 (rdV (txR r)) ∧ Turns B w w' := by
  have hl := txN_lt r
  have HN := Lib.hid (nb_one r)
  go_enter Tryz.func108, Tryz.ntmps108
  go_wp2_with fail
  refine (take_any h 1 hz (by decide)).mono ?_
  rintro e w1 ⟨rfl, A1, K1⟩
  clear h
  go_wp2_with fail
  refine (number_any (tkV r 1) _ (by have := tkV_size r 1; omega)).mono ?_
  rintro e v1 ⟨rfl, rfl⟩
  rw [show IntKind.i64.wrap (bN (bl (tkV r 1)) : Int) = (txN r : Int) from HN.out]
  go_wp2_with fail
  refine (take_any A1 (txN r) (by have := tkR_le r 1; omega) (by omega)).mono ?_
  rintro e w2 ⟨rfl, A2, K2⟩
  clear A1
  go_wp2_with fail
  refine (clone_any (txV r) _ (by have := tkV_size (tkR r 1) (txN r); unfold txV; omega)).mono ?_
  rintro e w3 ⟨rfl, G⟩
  replace A2 := A2.old G
  have K3 := (K1.trans K2).trans (Turns.of_below G)
  clear K1 K2 G
  go_wp2
  go_ret
  exact ⟨rfl, A2, K3⟩
end Go.Proofs.YtdmgobffhpgjlaaGreat.Sl
