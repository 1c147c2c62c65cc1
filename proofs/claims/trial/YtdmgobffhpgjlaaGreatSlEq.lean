/-
  Two slips, and two layouts, held against each other.
-/
import Derived.Test.YtdmgobffhpgjlaaGreatSlMem
namespace Go.Proofs.YtdmgobffhpgjlaaGreat.Sl
open Go.RowKit Go.PlainAid Go.Proofs.YtdmgobffhpgjlaaGreat.Cr
set_option linter.unusedVariables false
set_option maxRecDepth 20000
set_option linter.unusedSimpArgs false

theorem part_one {P : Program} {t : TypeId} {cs : Array Value} {off : Nat} {v : Value} {d : TypeDesc} (hu : P.underlying t = some d) (hd : (match d with | .struct _ | .array _ _ => true | _ => false) = false) (h : cs[off]? = some v) (w : World) : (part t cs off).run P w = .ok v w := by
  unfold part isAgg
  simp only [Sem.run_bind, run_underlying hu w, Result.andThen_ok, h]
  cases d <;> simp_all
theorem part_dig {x : Sp} (h : x.dig.length = 32) (w : World) : (part 37 (slV x) 3).run Tryz.prog w = .ok (.agg (dV x.dig).toArray) w := by
  unfold part
  have hz : (sizeOf 37).run Tryz.prog w = .ok 32 w := size_of (by kernel_rfl) w
  simp only [Sem.run_bind, run_isAgg (P := Tryz.prog) (t := 37) (by kernel_rfl) w, Result.andThen_ok, if_true, hz, dig_part h]
  rfl
theorem toList_eq_iff (a b : ByteArray) : (a.toList == b.toList) = true ↔ a = b := by
  rw [beq_iff_eq, ByteArray.toList_eq, ByteArray.toList_eq, Array.toList_inj]
  exact ⟨fun h => ByteArray.ext h, fun h => by rw [h]⟩
open Classical in
theorem eq_slip {x y : Sp} (hx : Dig x.dig) (hy : Dig y.dig) (w : World) : (Op.equalIn 10000 39 (.agg (slV x)) (.agg (slV y))).run Tryz.prog w = .ok (decide (x = y)) w := by
  have hf : (Tryz.prog.fieldsOf 39).toList = [⟨ "Kind", 3, 0, false, "", "", 0⟩, ⟨ "Repo", 9, 1, false, "", "", 8⟩, ⟨ "Tag", 9, 2, false, "", "", 24⟩, ⟨ "Digest", 37, 3, false, "", "", 40⟩, ⟨ "Type", 9, 35, false, "", "", 72⟩, ⟨ "Size", 3, 36, false, "", "", 88⟩, ⟨ "At", 3, 37, false, "", "", 96⟩] := by kernel_rfl
  rw [run_equalIn_struct w 9999 39 (slV x) (slV y) (by kernel_rfl) (by kernel_rfl), hf]
  clear hf
  have p0 := fun z : Sp => part_one (P := Tryz.prog) Tryz.underlying3 rfl (sl0 z)
  have p1 := fun z : Sp => part_one (P := Tryz.prog) Tryz.underlying9 rfl (sl1 z)
  have p2 := fun z : Sp => part_one (P := Tryz.prog) Tryz.underlying9 rfl (sl2 z)
  have p5x := part_one (P := Tryz.prog) Tryz.underlying9 rfl (sl35 hx.len)
  have p5y := part_one (P := Tryz.prog) Tryz.underlying9 rfl (sl35 hy.len)
  have p6x := part_one (P := Tryz.prog) Tryz.underlying3 rfl (sl36 hx.len)
  have p6y := part_one (P := Tryz.prog) Tryz.underlying3 rfl (sl36 hy.len)
  have p7x := part_one (P := Tryz.prog) Tryz.underlying3 rfl (sl37 hx.len)
  have p7y := part_one (P := Tryz.prog) Tryz.underlying3 rfl (sl37 hy.len)
  have q0 := run_equalIn_int (P := Tryz.prog) w 9998 3 .i64 .i64 x.k y.k Tryz.underlying3
  have q1 := run_equalIn_string (P := Tryz.prog) w 9998 9 x.repo y.repo Tryz.underlying9
  have q2 := run_equalIn_string (P := Tryz.prog) w 9998 9 x.tag y.tag Tryz.underlying9
  have q3 := eq_dig hx hy 9997 w
  have q5 := run_equalIn_string (P := Tryz.prog) w 9998 9 x.ty y.ty Tryz.underlying9
  have q6 := run_equalIn_int (P := Tryz.prog) w 9998 3 .i64 .i64 x.sz y.sz Tryz.underlying3
  have q7 := run_equalIn_int (P := Tryz.prog) w 9998 3 .i64 .i64 x.tm y.tm Tryz.underlying3
  simp only [Op.eqFields, Sem.run_bind, Sem.run_ite, Sem.run_pure, Result.andThen_ok, p0, p1, p2, part_dig hx.len, part_dig hy.len, p5x, p5y, p6x, p6y, p7x, p7y, q0, q1, q2, q3, q5, q6, q7, if_true]
  have t : ∀ (a b : ByteArray), (a.toList == b.toList) = decide (a = b) := fun a b => by
    rw [Bool.eq_iff_iff, toList_eq_iff, decide_eq_true_iff]
  have i : ∀ (a b : Int), (a == b) = decide (a = b) := fun a b => by
    rw [Bool.eq_iff_iff, beq_iff_eq, decide_eq_true_iff]
  simp only [t, i]
  have e : x = y ↔ x.k = y.k ∧ x.repo = y.repo ∧ x.tag = y.tag ∧ x.dig = y.dig ∧ x.ty = y.ty ∧ x.sz = y.sz ∧ x.tm = y.tm := by
    cases x; cases y; simp
  have e' : decide (x = y) = decide (x.k = y.k ∧ x.repo = y.repo ∧ x.tag = y.tag ∧ x.dig = y.dig ∧ x.ty = y.ty ∧ x.sz = y.sz ∧ x.tm = y.tm) := decide_eq_decide.2 e
  rw [e']
  by_cases a0 : x.k = y.k <;> by_cases a1 : x.repo = y.repo <;> by_cases a2 : x.tag = y.tag <;> by_cases a3 : x.dig = y.dig <;> by_cases a5 : x.ty = y.ty <;> by_cases a6 : x.sz = y.sz <;> by_cases a7 : x.tm = y.tm <;> simp [a0, a1, a2, a3, a5, a6, a7]
end Go.Proofs.YtdmgobffhpgjlaaGreat.Sl
