/-
  Two slips, and two layouts, held against each other.
  Contracts of the smallest functions of package slip and of the document's: layoutOf, has, isName, isNumber, number.
  Contracts of only and Good, the program's, and of Good, the document's.
  Contracts of Good, the program's.
-/
import Derived.Test.YtdmgobffhpgjlaaGreatSlMem
import Derived.Test.YtdmgobffhpgjlaaGreatCrSet
section
namespace Go.Proofs.YtdmgobffhpgjlaaGreat.Sl
open Go.RowKit Go.PlainAid Go.Proofs.YtdmgobffhpgjlaaGreat.Cr
set_option linter.unusedVariables false
set_option maxRecDepth 20000
set_option linter.unusedSimpArgs false

theorem part_one {P : Program} {t : TypeId} {cs : Array Value} {off : Nat} {v : Value} {d : TypeDesc} (hu : P.underlying t = some d) (hd : (match d with | .struct _ | .array _ _ => true | _ => false) = false) (h : cs[off]? = some v) (w : World) : (part t cs off).run P w = .ok v w := by
  unfold part isAgg
  simp only [Sem.run_bind, run_underlying hu w, Result.andThen_ok, h]
  cases d <;> simp_all
theorem part_dig {x : Sp} (h : x.dig.length = 32) (w : World) : (part 37 (slV x) 3).run Tryz.prog w = .ok (.agg (dV x.dig).toArray) w := by
  unfold part
  have hz : (sizeOf 37).run Tryz.prog w = .ok 32 w := size_of (by kernel_rfl) w
  simp only [Sem.run_bind, run_isAgg (P := Tryz.prog) (t := 37) (by kernel_rfl) w, Result.andThen_ok, if_true, hz, dig_part h]
  rfl
theorem toList_eq_iff (a b : ByteArray) : (a.toList == b.toList) = true ↔ a = b := by
  rw [beq_iff_eq, ByteArray.toList_eq, ByteArray.toList_eq, Array.toList_inj]
  exact ⟨fun h => ByteArray.ext h, fun h => by rw [h]⟩
open Classical in
theorem eq_slip {x y : Sp} (hx : Dig x.dig) (hy : Dig y.dig) (w : World) : (Op.equalIn 10000 39 (.agg (slV x)) (.agg (slV y))).run Tryz.prog w = .ok (decide (x = y)) w := by
  have hf : (Tryz.prog.fieldsOf 39).toList = [⟨ "Kind", 3, 0, false, "", "", 0⟩, ⟨ "Repo", 9, 1, false, "", "", 8⟩, ⟨ "Tag", 9, 2, false, "", "", 24⟩, ⟨ "Digest", 37, 3, false, "", "", 40⟩, ⟨ "Type", 9, 35, false, "", "", 72⟩, ⟨ "Size", 3, 36, false, "", "", 88⟩, ⟨ "At", 3, 37, false, "", "", 96⟩] := by kernel_rfl
  rw [run_equalIn_struct w 9999 39 (slV x) (slV y) (by kernel_rfl) (by kernel_rfl), hf]
  clear hf
  have p0 := fun z : Sp => part_one (P := Tryz.prog) Tryz.underlying3 rfl (sl0 z)
  have p1 := fun z : Sp => part_one (P := Tryz.prog) Tryz.underlying9 rfl (sl1 z)
  have p2 := fun z : Sp => part_one (P := Tryz.prog) Tryz.underlying9 rfl (sl2 z)
  have p5x := part_one (P := Tryz.prog) Tryz.underlying9 rfl (sl35 hx.len)
  have p5y := part_one (P := Tryz.prog) Tryz.underlying9 rfl (sl35 hy.len)
  have p6x := part_one (P := Tryz.prog) Tryz.underlying3 rfl (sl36 hx.len)
  have p6y := part_one (P := Tryz.prog) Tryz.underlying3 rfl (sl36 hy.len)
  have p7x := part_one (P := Tryz.prog) Tryz.underlying3 rfl (sl37 hx.len)
  have p7y := part_one (P := Tryz.prog) Tryz.underlying3 rfl (sl37 hy.len)
  have q0 := run_equalIn_int (P := Tryz.prog) w 9998 3 .i64 .i64 x.k y.k Tryz.underlying3
  have q1 := run_equalIn_string (P := Tryz.prog) w 9998 9 x.repo y.repo Tryz.underlying9
  have q2 := run_equalIn_string (P := Tryz.prog) w 9998 9 x.tag y.tag Tryz.underlying9
  have q3 := eq_dig hx hy 9997 w
  have q5 := run_equalIn_string (P := Tryz.prog) w 9998 9 x.ty y.ty Tryz.underlying9
  have q6 := run_equalIn_int (P := Tryz.prog) w 9998 3 .i64 .i64 x.sz y.sz Tryz.underlying3
  have q7 := run_equalIn_int (P := Tryz.prog) w 9998 3 .i64 .i64 x.tm y.tm Tryz.underlying3
  simp only [Op.eqFields, Sem.run_bind, Sem.run_ite, Sem.run_pure, Result.andThen_ok, p0, p1, p2, part_dig hx.len, part_dig hy.len, p5x, p5y, p6x, p6y, p7x, p7y, q0, q1, q2, q3, q5, q6, q7, if_true]
  have t : ∀ (a b : ByteArray), (a.toList == b.toList) = decide (a = b) := fun a b => by
    rw [Bool.eq_iff_iff, toList_eq_iff, decide_eq_true_iff]
  have i : ∀ (a b : Int), (a == b) = decide (a = b) := fun a b => by
    rw [Bool.eq_iff_iff, beq_iff_eq, decide_eq_true_iff]
  simp only [t, i]
  have e : x = y ↔ x.k = y.k ∧ x.repo = y.repo ∧ x.tag = y.tag ∧ x.dig = y.dig ∧ x.ty = y.ty ∧ x.sz = y.sz ∧ x.tm = y.tm := by
    cases x; cases y; simp
  have e' : decide (x = y) = decide (x.k = y.k ∧ x.repo = y.repo ∧ x.tag = y.tag ∧ x.dig = y.dig ∧ x.ty = y.ty ∧ x.sz = y.sz ∧ x.tm = y.tm) := decide_eq_decide.2 e
  rw [e']
  by_cases a0 : x.k = y.k <;> by_cases a1 : x.repo = y.repo <;> by_cases a2 : x.tag = y.tag <;> by_cases a3 : x.dig = y.dig <;> by_cases a5 : x.ty = y.ty <;> by_cases a6 : x.sz = y.sz <;> by_cases a7 : x.tm = y.tm <;> simp [a0, a1, a2, a3, a5, a6, a7]
end Go.Proofs.YtdmgobffhpgjlaaGreat.Sl
end

section
namespace Go.Proofs.YtdmgobffhpgjlaaGreat.Sl
open Go.RowKit Go.PlainAid Go.Proofs.YtdmgobffhpgjlaaGreat.Cr
set_option linter.unusedVariables false
set_option maxRecDepth 20000
set_option linter.unusedSimpArgs false

def layV (k : Int) : Array Value := #[.bool (hT k), .bool (hD k), .bool (hM k), .bool (hA k)]
theorem lay_one (k : Int) : ∀ v ∈ (layV k).toList, v.oneCell' = true := by simp [layV, Value.oneCell']
theorem kinds (k : Int) : k = 1 ∨ k = 2 ∨ k = 3 ∨ k = 4 ∨ k = 5 ∨ k = 6 ∨ (k ≠ 1 ∧ k ≠ 2 ∧ k ≠ 3 ∧ k ≠ 4 ∧ k ≠ 5 ∧ k ≠ 6) := by omega

set_option maxHeartbeats 1000000 in
theorem layout_any (k : Int) (w : World) :
    Calls Tryz.prog 94 #[.int .i64 k] w fun e w' => e = .returned (.agg (layV k)) ∧ Below w.heap.size w w' := by
  have S1 : Stores Tryz.prog (w.alloc (.cells #[.bool false, .bool false, .bool false, .bool false] 146)) 146 w.heap.size 0 (layV k) ((w.alloc (.cells #[.bool false, .bool false, .bool false, .bool false] 146)).setRow w.heap.size (layV k)) := (At.new w _ _).stores (by kernel_rfl) rfl (lay_one k)
  have A1 := (At.new w 146 #[.bool false, .bool false, .bool false, .bool false]).row (layV k)
  have F1 : Below w.heap.size w ((w.alloc (.cells #[.bool false, .bool false, .bool false, .bool false] 146)).setRow w.heap.size (layV k)) := below_row ((Below.refl _ _).alloc (Nat.le_refl _) _) (Nat.le_refl _)
  generalize (w.alloc (.cells #[.bool false, .bool false, .bool false, .bool false] 146)).setRow w.heap.size (layV k) = X at S1 A1 F1
  have R : ∀ f : Func, f = Tryz.f94 → ∀ tmps : Array Value, tmps.getD 2 undef = .pointer (some ⟨w.heap.size, 0, none⟩) → (results f tmps).run Tryz.prog X = .ok (.agg (layV k)) X := fun f hf tmps ht => by
    subst hf
    exact results_cell_row Tryz.results94 _ _ w.heap.size 146 (layV k) (0, 0) _ ht A1.heap Tryz.underlying146 rfl (by kernel_rfl)
  have HR := Lib.hid R
  clear R A1
  rcases kinds k with rfl | rfl | rfl | rfl | rfl | rfl | ⟨h1, h2, h3, h4, h5, h6⟩
  case inr.inr.inr.inr.inr.inr =>
    have e : layV k = #[.bool false, .bool false, .bool false, .bool false] := by simp [layV, hT, hD, hM, hA, h1, h2, h3, h4, h5, h6]
    have A0 := At.new w 146 #[.bool false, .bool false, .bool false, .bool false]
    rw [e]
    clear e S1 HR F1
    go_enter Tryz.func94, Tryz.ntmps94
    go_wp2
    exact bodyPost_ret (results_cell_row Tryz.results94 _ _ w.heap.size 146 #[.bool false, .bool false, .bool false, .bool false] (0, 0) _ rfl A0.heap Tryz.underlying146 rfl (by kernel_rfl)) rfl ⟨rfl, (Below.refl _ _).alloc (Nat.le_refl _) _⟩
  all_goals
    go_enter Tryz.func94, Tryz.ntmps94
    go_wp2_with (refine wpl_store S1 rfl rfl rfl rfl rfl ?_)
    exact bodyPost_ret (HR.out _ rfl _ rfl) rfl ⟨rfl, F1⟩
theorem isName_any (s : ByteArray) (m : Int) (w : World) (hs : s.size ≤ 9223372036854775807) :
    Calls Tryz.prog 95 #[.string s, .int .i64 m] w fun e w' => e = .returned (.bool (decide (1 ≤ (s.size : Int)) && decide ((s.size : Int) ≤ m))) ∧ w = w' := by
  go_enter Tryz.func95, Tryz.ntmps95
  go_wp2
  all_goals
    rename_i h
    go_ret
    refine ⟨?_, rfl⟩
    first
    | (rw [decide_eq_true h]; rfl)
    | (rw [decide_eq_false (by omega)]; rfl)
theorem isNumber_any (n m : Int) (w : World) :
    Calls Tryz.prog 96 #[.int .i64 n, .int .i64 m] w fun e w' => e = .returned (.bool (decide (0 ≤ n) && decide (n ≤ m))) ∧ w = w' := by
  go_enter Tryz.func96, Tryz.ntmps96
  go_wp2
  all_goals
    rename_i h
    go_ret
    refine ⟨?_, rfl⟩
    first
    | (rw [decide_eq_true h]; rfl)
    | (rw [decide_eq_false (by omega)]; rfl)
theorem or_byte (a b : Int) (h0 : 0 ≤ b) (h1 : b ≤ 255) : bits .or .i64 (wrap64 (wrap64 a * 256)) b = wrap64 (a * 256 + b) := by
  obtain ⟨c, rfl⟩ : ∃ c : Nat, b = (c : Int) := ⟨b.toNat, by omega⟩
  have hc : c < 256 := by omega
  show IntKind.i64.wrap ((((BitVec.ofInt 64 (wrap64 (wrap64 a * 256))) ||| (BitVec.ofInt 64 (c : Int))).toNat : Nat) : Int) = _
  rw [BitVec.toNat_or, BitVec.toNat_ofInt, BitVec.toNat_ofInt]
  obtain ⟨u, hu⟩ : ∃ u : Nat, (wrap64 (wrap64 a * 256)) % 18446744073709551616 = (u : Int) := ⟨((wrap64 (wrap64 a * 256)) % 18446744073709551616).toNat, by omega⟩
  have hu' : ((wrap64 (wrap64 a * 256)) % ((2 ^ 64 : Nat) : Int)).toNat = u := by
    rw [show ((2 ^ 64 : Nat) : Int) = 18446744073709551616 by rfl, hu]; rfl
  have hc' : ((c : Int) % ((2 ^ 64 : Nat) : Int)).toNat = c := by
    rw [show ((2 ^ 64 : Nat) : Int) = 18446744073709551616 by rfl]; omega
  rw [hu', hc']
  unfold wrap64 at hu
  rw [nat_join 8 u c (by omega) hc, i64_is]
  unfold wrap64
  omega
theorem number_any (s : ByteArray) (w : World) (hs : s.size ≤ 1000000) :
    Calls Tryz.prog 106 #[.string s] w fun e w' => e = .returned (.int .i64 (IntKind.i64.wrap (bN (bl s) : Int))) ∧ w = w' := by
  have hb := get_bt s
  go_enter Tryz.func106, Tryz.ntmps106
  go_wp2
  go_loopw [3, 7] (fun x i wr => ∃ k : Nat, k ≤ s.size ∧ x = .int .i64 (IntKind.i64.wrap (bN ((bl s).take k) : Int)) ∧ i = .int .i64 k ∧ w = wr) (fun _ i _ => s.size - (intOf i).toNat)
  case atStart => exact ⟨0, Nat.zero_le _, rfl, rfl, rfl⟩
  case round =>
    obtain ⟨k, hk, rfl, rfl, rfl⟩ := hrel
    by_cases hlt : k < s.size
    · have l1 : (k : Int) < (s.size : Int) := by omega
      have i1 : (0 : Int) ≤ (k : Int) := Int.natCast_nonneg _
      have b0 := bt_nonneg s k
      have b1 := bt_le s k
      have o1 := or_byte (bN ((bl s).take k) : Int) (bt s k) b0 b1
      go_wp2
      go_roundw
      case rel =>
        refine ⟨k + 1, by omega, ?_, by go_num, trivial⟩
        rw [bl_snoc s k hlt, bN_snoc, i64_is, ← bn_bt]
        congr 1
      case measure => simp [intOf]; omega
    · have l1 : ¬ (k : Int) < (s.size : Int) := by omega
      have e3 : (bl s).take k = bl s := List.take_of_length_le (by rw [bl_len]; omega)
      rw [e3]
      clear e3
      go_wp2
      go_ret
      exact ⟨rfl, rfl⟩
end Go.Proofs.YtdmgobffhpgjlaaGreat.Sl
end

section
namespace Go.Proofs.YtdmgobffhpgjlaaGreat.Sl
open Go.RowKit Go.PlainAid Go.Proofs.YtdmgobffhpgjlaaGreat.Cr
set_option linter.unusedVariables false
set_option maxRecDepth 20000
set_option linter.unusedSimpArgs false

/-- x without the fields that its kind doesn't have -/
def onlyS (x : Sp) : Sp := ⟨x.k, if hT x.k then x.repo else none8, if hT x.k then x.tag else none8, if hD x.k then x.dig else zeros, if hM x.k then x.ty else none8, if hM x.k then x.sz else 0, if hA x.k then x.tm else 0⟩
/-- what only holds in memory: the layout, the slip, its answer, and the slip that it makes -/
structure On (w0 w : World) (n L X R Y : Nat) (k : Int) (x y : Sp) : Prop where
  l : At w L 146 (layV k)
  x : At w X 39 (slV x)
  r : At w R 39 (slV Sp.zero)
  y : At w Y 39 (slV y)
  bel : Below n w0 w
  ne : L ≠ Y ∧ X ≠ Y ∧ R ≠ Y ∧ n ≤ Y ∧ n ≤ R
theorem On.set {w0 w : World} {n L X R Y : Nat} {k : Int} {x y y' : Sp} (h : On w0 w n L X R Y k x y) (j : Nat) (v : Value) (e : (slV y).setIfInBounds j v = slV y') : On w0 (w.setCell ⟨Y, j, none⟩ v) n L X R Y k x y' :=
  ⟨h.l.other h.ne.1 v, h.x.other h.ne.2.1 v, h.r.other h.ne.2.2.1 v, by rw [← e]; exact h.y.set j v, h.bel.setCell h.ne.2.2.2.1 v, h.ne⟩
theorem On.row {w0 w : World} {n L X R Y : Nat} {k : Int} {x y y' : Sp} (h : On w0 w n L X R Y k x y) : On w0 (w.setRow Y (slV y')) n L X R Y k x y' :=
  ⟨h.l.rowOther h.ne.1, h.x.rowOther h.ne.2.1, h.r.rowOther h.ne.2.2.1, h.y.row _, below_row h.bel h.ne.2.2.2.1, h.ne⟩
theorem On.drew {w0 w : World} {n L X R Y : Nat} {k : Int} {x y : Sp} (h : On w0 w n L X R Y k x y) : On w0 w.drew n L X R Y k x y := ⟨h.l.drew, h.x.drew, h.r.drew, h.y.drew, h.bel.drew, h.ne⟩
theorem on_start (w : World) (k : Int) (x : Sp) : ∃ L X R, L = w.heap.size ∧ X = w.heap.size + 1 ∧ R = w.heap.size + 1 + 1 ∧ ∀ W, W = (((w.alloc (.cells (layV k) 146)).alloc (.cells (slV x) 39)).alloc (.cells #[.int .i64 0, .string ⟨#[]⟩, .string ⟨#[]⟩, .int .u8 0, .int .u8 0, .int .u8 0, .int .u8 0, .int .u8 0, .int .u8 0, .int .u8 0, .int .u8 0, .int .u8 0, .int .u8 0, .int .u8 0, .int .u8 0, .int .u8 0, .int .u8 0, .int .u8 0, .int .u8 0, .int .u8 0, .int .u8 0, .int .u8 0, .int .u8 0, .int .u8 0, .int .u8 0, .int .u8 0, .int .u8 0, .int .u8 0, .int .u8 0, .int .u8 0, .int .u8 0, .int .u8 0, .int .u8 0, .int .u8 0, .int .u8 0, .string ⟨#[]⟩, .int .i64 0, .int .i64 0] 39)) →
    At W L 146 (layV k) ∧ At W X 39 (slV x) ∧ At W R 39 (slV Sp.zero) ∧ Below w.heap.size w W ∧ w.heap.size ≤ R := by
  refine ⟨_, _, _, rfl, rfl, rfl, ?_⟩
  intro W hW
  subst hW
  rw [zslip]
  have h1 := At.new w 146 (layV k)
  have h2 := At.new (w.alloc (.cells (layV k) 146)) 39 (slV x)
  have h3 := At.new ((w.alloc (.cells (layV k) 146)).alloc (.cells (slV x) 39)) 39 (slV Sp.zero)
  rw [World.size_alloc] at h2
  rw [World.size_alloc, World.size_alloc] at h3
  refine ⟨(h1.alloc _).alloc _, h2.alloc _, h3, ?_, by omega⟩
  exact (((Below.refl _ _).alloc (Nat.le_refl _) _).alloc (by simp) _).alloc (by simp; omega) _
set_option maxHeartbeats 4000000 in
theorem only_bind (x : Sp) (w : World) (hk : x.k = 1) (hd : Dig x.dig) :
    Calls Tryz.prog 97 #[.agg (layV 1), .agg (slV x)] w fun e w' => e = .returned (.agg (slV (onlyS x))) ∧ Below w.heap.size w w' := by
  obtain ⟨L, X, R, e1, e2, e3, st⟩ := on_start w 1 x
  have E1 := Lib.hid e1; have E2 := Lib.hid e2; have E3 := Lib.hid e3; have ST := Lib.hid st
  clear e1 e2 e3 st
  go_enter Tryz.func97, Tryz.ntmps97
  go_upto_region 1 with (fail)
  rw [← E3.out, ← E2.out, ← E1.out]
  obtain ⟨w1, hw1⟩ : ∃ w1, w1 = (((w.alloc (.cells (layV 1) 146)).alloc (.cells (slV x) 39)).alloc (.cells #[.int .i64 0, .string ⟨#[]⟩, .string ⟨#[]⟩, .int .u8 0, .int .u8 0, .int .u8 0, .int .u8 0, .int .u8 0, .int .u8 0, .int .u8 0, .int .u8 0, .int .u8 0, .int .u8 0, .int .u8 0, .int .u8 0, .int .u8 0, .int .u8 0, .int .u8 0, .int .u8 0, .int .u8 0, .int .u8 0, .int .u8 0, .int .u8 0, .int .u8 0, .int .u8 0, .int .u8 0, .int .u8 0, .int .u8 0, .int .u8 0, .int .u8 0, .int .u8 0, .int .u8 0, .int .u8 0, .int .u8 0, .int .u8 0, .string ⟨#[]⟩, .int .i64 0, .int .i64 0] 39)) := ⟨_, rfl⟩
  obtain ⟨hl, hx, hr, hb, hn⟩ := ST.out _ hw1
  rw [← hw1]
  clear hw1 ST E1 E2 E3
  have c0 : w1.cell? ⟨X, 0, none⟩ = some (.int .i64 1) := (hx.cell 0).trans (by rw [sl0, hk])
  obtain ⟨w2, S2, hy, G, Z2⟩ := k_keep w1 1
  clear Z2
  have O : On w w2 w.heap.size L X R w1.heap.size 1 x { Sp.zero with k := 1 } := ⟨hl.old G, hx.old G, hr.old G, hy, hb.trans (G.mono hb.size), by have := hl.lt; have := hx.lt; have := hr.lt; have := hb.size; omega⟩
  go_upto_region 2 with (refine wpl_store S2 rfl rfl rfl rfl rfl ?_)
  clear S2 hy G hl hx hr hb hn c0
  generalize w1.heap.size = Y at O ⊢
  replace O : On w w2 w.heap.size L X R Y 1 x ⟨1, none8, none8, zeros, none8, 0, 0⟩ := O
  have y0 : w2.cell? ⟨L, 0, none⟩ = some (.bool true) := O.l.cell 0
  have f1 := O.y.frozen 1
  have f2 := O.y.frozen 2
  have c1 : w2.cell? ⟨X, 1, none⟩ = some (.string x.repo) := (O.x.cell 1)
  have c2 : w2.cell? ⟨X, 2, none⟩ = some (.string x.tag) := (O.x.cell 2)
  have d1 : w2.cell? ⟨Y, 1, none⟩ = some (.string none8) := (O.y.cell 1)
  have d2 : w2.cell? ⟨Y, 2, none⟩ = some (.string none8) := (O.y.cell 2)
  go_upto_region 3 with (fail)
  go_region
  have O2 := ((O.set 1 (.string x.repo) (set1 _ _)).set 2 (.string x.tag) (set2 _ _)).drew
  clear O
  clear f1 f2 c1 c2 d1 d2 y0
  generalize ((w2.setCell ⟨Y, 1, none⟩ (.string x.repo)).setCell ⟨Y, 2, none⟩ (.string x.tag)).drew = w3 at O2 ⊢
  have O : On w w3 w.heap.size L X R Y 1 x ⟨1, x.repo, x.tag, zeros, none8, 0, 0⟩ := O2
  clear O2
  have zdl := zeros_dig.len
  have y1 : w3.cell? ⟨L, 1, none⟩ = some (.bool true) := O.l.cell 1
  have D1 := dig_loads O.x hd.len
  have D2 : Stores Tryz.prog w3 37 Y 3 (dV x.dig).toArray (w3.setRow Y (slV ⟨1, x.repo, x.tag, x.dig, none8, 0, 0⟩)) := dig_stores O.y zdl hd.len
  have O2 := O.row (y' := ⟨1, x.repo, x.tag, x.dig, none8, 0, 0⟩)
  generalize w3.setRow Y (slV ⟨1, x.repo, x.tag, x.dig, none8, 0, 0⟩) = w4 at D2 O2
  go_upto_region 6 with (first | refine wpl_load D1 rfl rfl rfl ?_ | refine wpl_store D2 rfl rfl rfl rfl rfl ?_)
  clear O D1 D2 y1
  have O := O2
  clear O2
  clear zdl
  have zdl := hd.len
  have y2 : w4.cell? ⟨L, 2, none⟩ = some (.bool true) := O.l.cell 2
  have f1 := O.y.frozen 35
  have f2 := O.y.frozen 36
  have c1 : w4.cell? ⟨X, 35, none⟩ = some (.string x.ty) := (O.x.cell 35).trans (sl35 hd.len)
  have c2 : w4.cell? ⟨X, 36, none⟩ = some (.int .i64 x.sz) := (O.x.cell 36).trans (sl36 hd.len)
  have d1 : w4.cell? ⟨Y, 35, none⟩ = some (.string none8) := (O.y.cell 35).trans (sl35 zdl)
  have d2 : w4.cell? ⟨Y, 36, none⟩ = some (.int .i64 0) := (O.y.cell 36).trans (sl36 zdl)
  go_upto_region 7 with (fail)
  go_region
  have O2 := ((O.set 35 (.string x.ty) (set35 (x := ⟨1, x.repo, x.tag, x.dig, none8, 0, 0⟩) zdl _)).set 36 (.int .i64 x.sz) (set36 (x := ⟨1, x.repo, x.tag, x.dig, x.ty, 0, 0⟩) zdl _)).drew
  clear O
  clear f1 f2 c1 c2 d1 d2 y2
  generalize ((w4.setCell ⟨Y, 35, none⟩ (.string x.ty)).setCell ⟨Y, 36, none⟩ (.int .i64 x.sz)).drew = w5 at O2 ⊢
  have O : On w w5 w.heap.size L X R Y 1 x ⟨1, x.repo, x.tag, x.dig, x.ty, x.sz, 0⟩ := O2
  clear O2
  have y3 : w5.cell? ⟨L, 3, none⟩ = some (.bool true) := O.l.cell 3
  have f1 := O.y.frozen 37
  have c1 : w5.cell? ⟨X, 37, none⟩ = some (.int .i64 x.tm) := (O.x.cell 37).trans (sl37 hd.len)
  have d1 : w5.cell? ⟨Y, 37, none⟩ = some (.int .i64 0) := (O.y.cell 37).trans (sl37 zdl)
  go_upto_region 10 with (fail)
  have O2 := O.set 37 (.int .i64 x.tm) (set37 (x := ⟨1, x.repo, x.tag, x.dig, x.ty, x.sz, 0⟩) zdl _)
  clear O f1 c1 d1 y3
  generalize w5.setCell ⟨Y, 37, none⟩ (.int .i64 x.tm) = w6 at O2 ⊢
  have O : On w w6 w.heap.size L X R Y 1 x ⟨1, x.repo, x.tag, x.dig, x.ty, x.sz, x.tm⟩ := O2
  clear O2
  have fin : ⟨1, x.repo, x.tag, x.dig, x.ty, x.sz, x.tm⟩ = onlyS x := by
    unfold onlyS
    rw [hk]
    rfl
  rw [fin] at O
  have zd : (onlyS x).dig.length = 32 := by rw [← fin]; exact zdl
  clear fin zdl
  have D1 := sl_loads O.y zd
  have D2 := sl_stores O.r zeros_dig.len zd
  have R1 := O.r.row (slV (onlyS x))
  have bel := below_row (cs := slV (onlyS x)) O.bel O.ne.2.2.2.2
  generalize w6.setRow R (slV (onlyS x)) = w9 at D2 R1 bel
  go_wp2_with (first | refine wpl_load D1 rfl rfl rfl ?_ | refine wpl_store D2 rfl rfl rfl rfl rfl ?_)
  exact bodyPost_ret (results_cell_row Tryz.results97 _ _ R 39 (slV (onlyS x)) (0, 0) _ rfl R1.heap Tryz.underlying39 rfl (by rw [slV_size zd]; kernel_rfl)) rfl ⟨rfl, bel⟩
set_option maxHeartbeats 4000000 in
theorem only_miss (x : Sp) (w : World) (hk : x.k = 2) (hd : Dig x.dig) :
    Calls Tryz.prog 97 #[.agg (layV 2), .agg (slV x)] w fun e w' => e = .returned (.agg (slV (onlyS x))) ∧ Below w.heap.size w w' := by
  obtain ⟨L, X, R, e1, e2, e3, st⟩ := on_start w 2 x
  have E1 := Lib.hid e1; have E2 := Lib.hid e2; have E3 := Lib.hid e3; have ST := Lib.hid st
  clear e1 e2 e3 st
  go_enter Tryz.func97, Tryz.ntmps97
  go_upto_region 1 with (fail)
  rw [← E3.out, ← E2.out, ← E1.out]
  obtain ⟨w1, hw1⟩ : ∃ w1, w1 = (((w.alloc (.cells (layV 2) 146)).alloc (.cells (slV x) 39)).alloc (.cells #[.int .i64 0, .string ⟨#[]⟩, .string ⟨#[]⟩, .int .u8 0, .int .u8 0, .int .u8 0, .int .u8 0, .int .u8 0, .int .u8 0, .int .u8 0, .int .u8 0, .int .u8 0, .int .u8 0, .int .u8 0, .int .u8 0, .int .u8 0, .int .u8 0, .int .u8 0, .int .u8 0, .int .u8 0, .int .u8 0, .int .u8 0, .int .u8 0, .int .u8 0, .int .u8 0, .int .u8 0, .int .u8 0, .int .u8 0, .int .u8 0, .int .u8 0, .int .u8 0, .int .u8 0, .int .u8 0, .int .u8 0, .int .u8 0, .string ⟨#[]⟩, .int .i64 0, .int .i64 0] 39)) := ⟨_, rfl⟩
  obtain ⟨hl, hx, hr, hb, hn⟩ := ST.out _ hw1
  rw [← hw1]
  clear hw1 ST E1 E2 E3
  have c0 : w1.cell? ⟨X, 0, none⟩ = some (.int .i64 2) := (hx.cell 0).trans (by rw [sl0, hk])
  obtain ⟨w2, S2, hy, G, Z2⟩ := k_keep w1 2
  clear Z2
  have O : On w w2 w.heap.size L X R w1.heap.size 2 x { Sp.zero with k := 2 } := ⟨hl.old G, hx.old G, hr.old G, hy, hb.trans (G.mono hb.size), by have := hl.lt; have := hx.lt; have := hr.lt; have := hb.size; omega⟩
  go_upto_region 2 with (refine wpl_store S2 rfl rfl rfl rfl rfl ?_)
  clear S2 hy G hl hx hr hb hn c0
  generalize w1.heap.size = Y at O ⊢
  replace O : On w w2 w.heap.size L X R Y 2 x ⟨2, none8, none8, zeros, none8, 0, 0⟩ := O
  have y0 : w2.cell? ⟨L, 0, none⟩ = some (.bool true) := O.l.cell 0
  have f1 := O.y.frozen 1
  have f2 := O.y.frozen 2
  have c1 : w2.cell? ⟨X, 1, none⟩ = some (.string x.repo) := (O.x.cell 1)
  have c2 : w2.cell? ⟨X, 2, none⟩ = some (.string x.tag) := (O.x.cell 2)
  have d1 : w2.cell? ⟨Y, 1, none⟩ = some (.string none8) := (O.y.cell 1)
  have d2 : w2.cell? ⟨Y, 2, none⟩ = some (.string none8) := (O.y.cell 2)
  go_upto_region 3 with (fail)
  go_region
  have O2 := ((O.set 1 (.string x.repo) (set1 _ _)).set 2 (.string x.tag) (set2 _ _)).drew
  clear O
  clear f1 f2 c1 c2 d1 d2 y0
  generalize ((w2.setCell ⟨Y, 1, none⟩ (.string x.repo)).setCell ⟨Y, 2, none⟩ (.string x.tag)).drew = w3 at O2 ⊢
  have O : On w w3 w.heap.size L X R Y 2 x ⟨2, x.repo, x.tag, zeros, none8, 0, 0⟩ := O2
  clear O2
  have zdl := zeros_dig.len
  have y1 : w3.cell? ⟨L, 1, none⟩ = some (.bool false) := O.l.cell 1
  have y2 : w3.cell? ⟨L, 2, none⟩ = some (.bool false) := O.l.cell 2
  have y3 : w3.cell? ⟨L, 3, none⟩ = some (.bool true) := O.l.cell 3
  have f1 := O.y.frozen 37
  have c1 : w3.cell? ⟨X, 37, none⟩ = some (.int .i64 x.tm) := (O.x.cell 37).trans (sl37 hd.len)
  have d1 : w3.cell? ⟨Y, 37, none⟩ = some (.int .i64 0) := (O.y.cell 37).trans (sl37 zdl)
  go_upto_region 10 with (fail)
  have O2 := O.set 37 (.int .i64 x.tm) (set37 (x := ⟨2, x.repo, x.tag, zeros, none8, 0, 0⟩) zdl _)
  clear O f1 c1 d1 y1 y2 y3
  generalize w3.setCell ⟨Y, 37, none⟩ (.int .i64 x.tm) = w4 at O2 ⊢
  have O : On w w4 w.heap.size L X R Y 2 x ⟨2, x.repo, x.tag, zeros, none8, 0, x.tm⟩ := O2
  clear O2
  have fin : ⟨2, x.repo, x.tag, zeros, none8, 0, x.tm⟩ = onlyS x := by
    unfold onlyS
    rw [hk]
    rfl
  rw [fin] at O
  have zd : (onlyS x).dig.length = 32 := by rw [← fin]; exact zdl
  clear fin zdl
  have D1 := sl_loads O.y zd
  have D2 := sl_stores O.r zeros_dig.len zd
  have R1 := O.r.row (slV (onlyS x))
  have bel := below_row (cs := slV (onlyS x)) O.bel O.ne.2.2.2.2
  generalize w4.setRow R (slV (onlyS x)) = w9 at D2 R1 bel
  go_wp2_with (first | refine wpl_load D1 rfl rfl rfl ?_ | refine wpl_store D2 rfl rfl rfl rfl rfl ?_)
  exact bodyPost_ret (results_cell_row Tryz.results97 _ _ R 39 (slV (onlyS x)) (0, 0) _ rfl R1.heap Tryz.underlying39 rfl (by rw [slV_size zd]; kernel_rfl)) rfl ⟨rfl, bel⟩
set_option maxHeartbeats 4000000 in
theorem only_drop (x : Sp) (w : World) (hk : x.k = 3) (hd : Dig x.dig) :
    Calls Tryz.prog 97 #[.agg (layV 3), .agg (slV x)] w fun e w' => e = .returned (.agg (slV (onlyS x))) ∧ Below w.heap.size w w' := by
  obtain ⟨L, X, R, e1, e2, e3, st⟩ := on_start w 3 x
  have E1 := Lib.hid e1; have E2 := Lib.hid e2; have E3 := Lib.hid e3; have ST := Lib.hid st
  clear e1 e2 e3 st
  go_enter Tryz.func97, Tryz.ntmps97
  go_upto_region 1 with (fail)
  rw [← E3.out, ← E2.out, ← E1.out]
  obtain ⟨w1, hw1⟩ : ∃ w1, w1 = (((w.alloc (.cells (layV 3) 146)).alloc (.cells (slV x) 39)).alloc (.cells #[.int .i64 0, .string ⟨#[]⟩, .string ⟨#[]⟩, .int .u8 0, .int .u8 0, .int .u8 0, .int .u8 0, .int .u8 0, .int .u8 0, .int .u8 0, .int .u8 0, .int .u8 0, .int .u8 0, .int .u8 0, .int .u8 0, .int .u8 0, .int .u8 0, .int .u8 0, .int .u8 0, .int .u8 0, .int .u8 0, .int .u8 0, .int .u8 0, .int .u8 0, .int .u8 0, .int .u8 0, .int .u8 0, .int .u8 0, .int .u8 0, .int .u8 0, .int .u8 0, .int .u8 0, .int .u8 0, .int .u8 0, .int .u8 0, .string ⟨#[]⟩, .int .i64 0, .int .i64 0] 39)) := ⟨_, rfl⟩
  obtain ⟨hl, hx, hr, hb, hn⟩ := ST.out _ hw1
  rw [← hw1]
  clear hw1 ST E1 E2 E3
  have c0 : w1.cell? ⟨X, 0, none⟩ = some (.int .i64 3) := (hx.cell 0).trans (by rw [sl0, hk])
  obtain ⟨w2, S2, hy, G, Z2⟩ := k_keep w1 3
  clear Z2
  have O : On w w2 w.heap.size L X R w1.heap.size 3 x { Sp.zero with k := 3 } := ⟨hl.old G, hx.old G, hr.old G, hy, hb.trans (G.mono hb.size), by have := hl.lt; have := hx.lt; have := hr.lt; have := hb.size; omega⟩
  go_upto_region 2 with (refine wpl_store S2 rfl rfl rfl rfl rfl ?_)
  clear S2 hy G hl hx hr hb hn c0
  generalize w1.heap.size = Y at O ⊢
  replace O : On w w2 w.heap.size L X R Y 3 x ⟨3, none8, none8, zeros, none8, 0, 0⟩ := O
  have y0 : w2.cell? ⟨L, 0, none⟩ = some (.bool true) := O.l.cell 0
  have f1 := O.y.frozen 1
  have f2 := O.y.frozen 2
  have c1 : w2.cell? ⟨X, 1, none⟩ = some (.string x.repo) := (O.x.cell 1)
  have c2 : w2.cell? ⟨X, 2, none⟩ = some (.string x.tag) := (O.x.cell 2)
  have d1 : w2.cell? ⟨Y, 1, none⟩ = some (.string none8) := (O.y.cell 1)
  have d2 : w2.cell? ⟨Y, 2, none⟩ = some (.string none8) := (O.y.cell 2)
  go_upto_region 3 with (fail)
  go_region
  have O2 := ((O.set 1 (.string x.repo) (set1 _ _)).set 2 (.string x.tag) (set2 _ _)).drew
  clear O
  clear f1 f2 c1 c2 d1 d2 y0
  generalize ((w2.setCell ⟨Y, 1, none⟩ (.string x.repo)).setCell ⟨Y, 2, none⟩ (.string x.tag)).drew = w3 at O2 ⊢
  have O : On w w3 w.heap.size L X R Y 3 x ⟨3, x.repo, x.tag, zeros, none8, 0, 0⟩ := O2
  clear O2
  have zdl := zeros_dig.len
  have y1 : w3.cell? ⟨L, 1, none⟩ = some (.bool false) := O.l.cell 1
  have y2 : w3.cell? ⟨L, 2, none⟩ = some (.bool false) := O.l.cell 2
  have y3 : w3.cell? ⟨L, 3, none⟩ = some (.bool false) := O.l.cell 3
  have fin : ⟨3, x.repo, x.tag, zeros, none8, 0, 0⟩ = onlyS x := by
    unfold onlyS
    rw [hk]
    rfl
  rw [fin] at O
  have zd : (onlyS x).dig.length = 32 := by rw [← fin]; exact zdl
  clear fin zdl
  have D1 := sl_loads O.y zd
  have D2 := sl_stores O.r zeros_dig.len zd
  have R1 := O.r.row (slV (onlyS x))
  have bel := below_row (cs := slV (onlyS x)) O.bel O.ne.2.2.2.2
  generalize w3.setRow R (slV (onlyS x)) = w9 at D2 R1 bel
  go_wp2_with (first | refine wpl_load D1 rfl rfl rfl ?_ | refine wpl_store D2 rfl rfl rfl rfl rfl ?_)
  exact bodyPost_ret (results_cell_row Tryz.results97 _ _ R 39 (slV (onlyS x)) (0, 0) _ rfl R1.heap Tryz.underlying39 rfl (by rw [slV_size zd]; kernel_rfl)) rfl ⟨rfl, bel⟩
set_option maxHeartbeats 4000000 in
theorem only_blob (x : Sp) (w : World) (hk : x.k = 4) (hd : Dig x.dig) :
    Calls Tryz.prog 97 #[.agg (layV 4), .agg (slV x)] w fun e w' => e = .returned (.agg (slV (onlyS x))) ∧ Below w.heap.size w w' := by
  obtain ⟨L, X, R, e1, e2, e3, st⟩ := on_start w 4 x
  have E1 := Lib.hid e1; have E2 := Lib.hid e2; have E3 := Lib.hid e3; have ST := Lib.hid st
  clear e1 e2 e3 st
  go_enter Tryz.func97, Tryz.ntmps97
  go_upto_region 1 with (fail)
  rw [← E3.out, ← E2.out, ← E1.out]
  obtain ⟨w1, hw1⟩ : ∃ w1, w1 = (((w.alloc (.cells (layV 4) 146)).alloc (.cells (slV x) 39)).alloc (.cells #[.int .i64 0, .string ⟨#[]⟩, .string ⟨#[]⟩, .int .u8 0, .int .u8 0, .int .u8 0, .int .u8 0, .int .u8 0, .int .u8 0, .int .u8 0, .int .u8 0, .int .u8 0, .int .u8 0, .int .u8 0, .int .u8 0, .int .u8 0, .int .u8 0, .int .u8 0, .int .u8 0, .int .u8 0, .int .u8 0, .int .u8 0, .int .u8 0, .int .u8 0, .int .u8 0, .int .u8 0, .int .u8 0, .int .u8 0, .int .u8 0, .int .u8 0, .int .u8 0, .int .u8 0, .int .u8 0, .int .u8 0, .int .u8 0, .string ⟨#[]⟩, .int .i64 0, .int .i64 0] 39)) := ⟨_, rfl⟩
  obtain ⟨hl, hx, hr, hb, hn⟩ := ST.out _ hw1
  rw [← hw1]
  clear hw1 ST E1 E2 E3
  have c0 : w1.cell? ⟨X, 0, none⟩ = some (.int .i64 4) := (hx.cell 0).trans (by rw [sl0, hk])
  obtain ⟨w2, S2, hy, G, Z2⟩ := k_keep w1 4
  clear Z2
  have O : On w w2 w.heap.size L X R w1.heap.size 4 x { Sp.zero with k := 4 } := ⟨hl.old G, hx.old G, hr.old G, hy, hb.trans (G.mono hb.size), by have := hl.lt; have := hx.lt; have := hr.lt; have := hb.size; omega⟩
  go_upto_region 2 with (refine wpl_store S2 rfl rfl rfl rfl rfl ?_)
  clear S2 hy G hl hx hr hb hn c0
  generalize w1.heap.size = Y at O ⊢
  replace O : On w w2 w.heap.size L X R Y 4 x ⟨4, none8, none8, zeros, none8, 0, 0⟩ := O
  have zdl := zeros_dig.len
  have y0 : w2.cell? ⟨L, 0, none⟩ = some (.bool false) := O.l.cell 0
  have y1 : w2.cell? ⟨L, 1, none⟩ = some (.bool true) := O.l.cell 1
  have D1 := dig_loads O.x hd.len
  have D2 : Stores Tryz.prog w2 37 Y 3 (dV x.dig).toArray (w2.setRow Y (slV ⟨4, none8, none8, x.dig, none8, 0, 0⟩)) := dig_stores O.y zdl hd.len
  have O2 := O.row (y' := ⟨4, none8, none8, x.dig, none8, 0, 0⟩)
  generalize w2.setRow Y (slV ⟨4, none8, none8, x.dig, none8, 0, 0⟩) = w3 at D2 O2
  go_upto_region 6 with (first | refine wpl_load D1 rfl rfl rfl ?_ | refine wpl_store D2 rfl rfl rfl rfl rfl ?_)
  clear O D1 D2 y0 y1
  have O := O2
  clear O2
  clear zdl
  have zdl := hd.len
  have y2 : w3.cell? ⟨L, 2, none⟩ = some (.bool true) := O.l.cell 2
  have f1 := O.y.frozen 35
  have f2 := O.y.frozen 36
  have c1 : w3.cell? ⟨X, 35, none⟩ = some (.string x.ty) := (O.x.cell 35).trans (sl35 hd.len)
  have c2 : w3.cell? ⟨X, 36, none⟩ = some (.int .i64 x.sz) := (O.x.cell 36).trans (sl36 hd.len)
  have d1 : w3.cell? ⟨Y, 35, none⟩ = some (.string none8) := (O.y.cell 35).trans (sl35 zdl)
  have d2 : w3.cell? ⟨Y, 36, none⟩ = some (.int .i64 0) := (O.y.cell 36).trans (sl36 zdl)
  go_upto_region 7 with (fail)
  go_region
  have O2 := ((O.set 35 (.string x.ty) (set35 (x := ⟨4, none8, none8, x.dig, none8, 0, 0⟩) zdl _)).set 36 (.int .i64 x.sz) (set36 (x := ⟨4, none8, none8, x.dig, x.ty, 0, 0⟩) zdl _)).drew
  clear O
  clear f1 f2 c1 c2 d1 d2 y2
  generalize ((w3.setCell ⟨Y, 35, none⟩ (.string x.ty)).setCell ⟨Y, 36, none⟩ (.int .i64 x.sz)).drew = w4 at O2 ⊢
  have O : On w w4 w.heap.size L X R Y 4 x ⟨4, none8, none8, x.dig, x.ty, x.sz, 0⟩ := O2
  clear O2
  have y3 : w4.cell? ⟨L, 3, none⟩ = some (.bool false) := O.l.cell 3
  have fin : ⟨4, none8, none8, x.dig, x.ty, x.sz, 0⟩ = onlyS x := by
    unfold onlyS
    rw [hk]
    rfl
  rw [fin] at O
  have zd : (onlyS x).dig.length = 32 := by rw [← fin]; exact zdl
  clear fin zdl
  have D1 := sl_loads O.y zd
  have D2 := sl_stores O.r zeros_dig.len zd
  have R1 := O.r.row (slV (onlyS x))
  have bel := below_row (cs := slV (onlyS x)) O.bel O.ne.2.2.2.2
  generalize w4.setRow R (slV (onlyS x)) = w9 at D2 R1 bel
  go_wp2_with (first | refine wpl_load D1 rfl rfl rfl ?_ | refine wpl_store D2 rfl rfl rfl rfl rfl ?_)
  exact bodyPost_ret (results_cell_row Tryz.results97 _ _ R 39 (slV (onlyS x)) (0, 0) _ rfl R1.heap Tryz.underlying39 rfl (by rw [slV_size zd]; kernel_rfl)) rfl ⟨rfl, bel⟩
set_option maxHeartbeats 4000000 in
theorem only_gone (x : Sp) (w : World) (hk : x.k = 5) (hd : Dig x.dig) :
    Calls Tryz.prog 97 #[.agg (layV 5), .agg (slV x)] w fun e w' => e = .returned (.agg (slV (onlyS x))) ∧ Below w.heap.size w w' := by
  obtain ⟨L, X, R, e1, e2, e3, st⟩ := on_start w 5 x
  have E1 := Lib.hid e1; have E2 := Lib.hid e2; have E3 := Lib.hid e3; have ST := Lib.hid st
  clear e1 e2 e3 st
  go_enter Tryz.func97, Tryz.ntmps97
  go_upto_region 1 with (fail)
  rw [← E3.out, ← E2.out, ← E1.out]
  obtain ⟨w1, hw1⟩ : ∃ w1, w1 = (((w.alloc (.cells (layV 5) 146)).alloc (.cells (slV x) 39)).alloc (.cells #[.int .i64 0, .string ⟨#[]⟩, .string ⟨#[]⟩, .int .u8 0, .int .u8 0, .int .u8 0, .int .u8 0, .int .u8 0, .int .u8 0, .int .u8 0, .int .u8 0, .int .u8 0, .int .u8 0, .int .u8 0, .int .u8 0, .int .u8 0, .int .u8 0, .int .u8 0, .int .u8 0, .int .u8 0, .int .u8 0, .int .u8 0, .int .u8 0, .int .u8 0, .int .u8 0, .int .u8 0, .int .u8 0, .int .u8 0, .int .u8 0, .int .u8 0, .int .u8 0, .int .u8 0, .int .u8 0, .int .u8 0, .int .u8 0, .string ⟨#[]⟩, .int .i64 0, .int .i64 0] 39)) := ⟨_, rfl⟩
  obtain ⟨hl, hx, hr, hb, hn⟩ := ST.out _ hw1
  rw [← hw1]
  clear hw1 ST E1 E2 E3
  have c0 : w1.cell? ⟨X, 0, none⟩ = some (.int .i64 5) := (hx.cell 0).trans (by rw [sl0, hk])
  obtain ⟨w2, S2, hy, G, Z2⟩ := k_keep w1 5
  clear Z2
  have O : On w w2 w.heap.size L X R w1.heap.size 5 x { Sp.zero with k := 5 } := ⟨hl.old G, hx.old G, hr.old G, hy, hb.trans (G.mono hb.size), by have := hl.lt; have := hx.lt; have := hr.lt; have := hb.size; omega⟩
  go_upto_region 2 with (refine wpl_store S2 rfl rfl rfl rfl rfl ?_)
  clear S2 hy G hl hx hr hb hn c0
  generalize w1.heap.size = Y at O ⊢
  replace O : On w w2 w.heap.size L X R Y 5 x ⟨5, none8, none8, zeros, none8, 0, 0⟩ := O
  have zdl := zeros_dig.len
  have y0 : w2.cell? ⟨L, 0, none⟩ = some (.bool false) := O.l.cell 0
  have y1 : w2.cell? ⟨L, 1, none⟩ = some (.bool true) := O.l.cell 1
  have D1 := dig_loads O.x hd.len
  have D2 : Stores Tryz.prog w2 37 Y 3 (dV x.dig).toArray (w2.setRow Y (slV ⟨5, none8, none8, x.dig, none8, 0, 0⟩)) := dig_stores O.y zdl hd.len
  have O2 := O.row (y' := ⟨5, none8, none8, x.dig, none8, 0, 0⟩)
  generalize w2.setRow Y (slV ⟨5, none8, none8, x.dig, none8, 0, 0⟩) = w3 at D2 O2
  go_upto_region 6 with (first | refine wpl_load D1 rfl rfl rfl ?_ | refine wpl_store D2 rfl rfl rfl rfl rfl ?_)
  clear O D1 D2 y0 y1
  have O := O2
  clear O2
  clear zdl
  have zdl := hd.len
  have y2 : w3.cell? ⟨L, 2, none⟩ = some (.bool false) := O.l.cell 2
  have y3 : w3.cell? ⟨L, 3, none⟩ = some (.bool false) := O.l.cell 3
  have fin : ⟨5, none8, none8, x.dig, none8, 0, 0⟩ = onlyS x := by
    unfold onlyS
    rw [hk]
    rfl
  rw [fin] at O
  have zd : (onlyS x).dig.length = 32 := by rw [← fin]; exact zdl
  clear fin zdl
  have D1 := sl_loads O.y zd
  have D2 := sl_stores O.r zeros_dig.len zd
  have R1 := O.r.row (slV (onlyS x))
  have bel := below_row (cs := slV (onlyS x)) O.bel O.ne.2.2.2.2
  generalize w3.setRow R (slV (onlyS x)) = w9 at D2 R1 bel
  go_wp2_with (first | refine wpl_load D1 rfl rfl rfl ?_ | refine wpl_store D2 rfl rfl rfl rfl rfl ?_)
  exact bodyPost_ret (results_cell_row Tryz.results97 _ _ R 39 (slV (onlyS x)) (0, 0) _ rfl R1.heap Tryz.underlying39 rfl (by rw [slV_size zd]; kernel_rfl)) rfl ⟨rfl, bel⟩
set_option maxHeartbeats 4000000 in
theorem only_touch (x : Sp) (w : World) (hk : x.k = 6) (hd : Dig x.dig) :
    Calls Tryz.prog 97 #[.agg (layV 6), .agg (slV x)] w fun e w' => e = .returned (.agg (slV (onlyS x))) ∧ Below w.heap.size w w' := by
  obtain ⟨L, X, R, e1, e2, e3, st⟩ := on_start w 6 x
  have E1 := Lib.hid e1; have E2 := Lib.hid e2; have E3 := Lib.hid e3; have ST := Lib.hid st
  clear e1 e2 e3 st
  go_enter Tryz.func97, Tryz.ntmps97
  go_upto_region 1 with (fail)
  rw [← E3.out, ← E2.out, ← E1.out]
  obtain ⟨w1, hw1⟩ : ∃ w1, w1 = (((w.alloc (.cells (layV 6) 146)).alloc (.cells (slV x) 39)).alloc (.cells #[.int .i64 0, .string ⟨#[]⟩, .string ⟨#[]⟩, .int .u8 0, .int .u8 0, .int .u8 0, .int .u8 0, .int .u8 0, .int .u8 0, .int .u8 0, .int .u8 0, .int .u8 0, .int .u8 0, .int .u8 0, .int .u8 0, .int .u8 0, .int .u8 0, .int .u8 0, .int .u8 0, .int .u8 0, .int .u8 0, .int .u8 0, .int .u8 0, .int .u8 0, .int .u8 0, .int .u8 0, .int .u8 0, .int .u8 0, .int .u8 0, .int .u8 0, .int .u8 0, .int .u8 0, .int .u8 0, .int .u8 0, .int .u8 0, .string ⟨#[]⟩, .int .i64 0, .int .i64 0] 39)) := ⟨_, rfl⟩
  obtain ⟨hl, hx, hr, hb, hn⟩ := ST.out _ hw1
  rw [← hw1]
  clear hw1 ST E1 E2 E3
  have c0 : w1.cell? ⟨X, 0, none⟩ = some (.int .i64 6) := (hx.cell 0).trans (by rw [sl0, hk])
  obtain ⟨w2, S2, hy, G, Z2⟩ := k_keep w1 6
  clear Z2
  have O : On w w2 w.heap.size L X R w1.heap.size 6 x { Sp.zero with k := 6 } := ⟨hl.old G, hx.old G, hr.old G, hy, hb.trans (G.mono hb.size), by have := hl.lt; have := hx.lt; have := hr.lt; have := hb.size; omega⟩
  go_upto_region 2 with (refine wpl_store S2 rfl rfl rfl rfl rfl ?_)
  clear S2 hy G hl hx hr hb hn c0
  generalize w1.heap.size = Y at O ⊢
  replace O : On w w2 w.heap.size L X R Y 6 x ⟨6, none8, none8, zeros, none8, 0, 0⟩ := O
  have zdl := zeros_dig.len
  have y0 : w2.cell? ⟨L, 0, none⟩ = some (.bool false) := O.l.cell 0
  have y1 : w2.cell? ⟨L, 1, none⟩ = some (.bool true) := O.l.cell 1
  have D1 := dig_loads O.x hd.len
  have D2 : Stores Tryz.prog w2 37 Y 3 (dV x.dig).toArray (w2.setRow Y (slV ⟨6, none8, none8, x.dig, none8, 0, 0⟩)) := dig_stores O.y zdl hd.len
  have O2 := O.row (y' := ⟨6, none8, none8, x.dig, none8, 0, 0⟩)
  generalize w2.setRow Y (slV ⟨6, none8, none8, x.dig, none8, 0, 0⟩) = w3 at D2 O2
  go_upto_region 6 with (first | refine wpl_load D1 rfl rfl rfl ?_ | refine wpl_store D2 rfl rfl rfl rfl rfl ?_)
  clear O D1 D2 y0 y1
  have O := O2
  clear O2
  clear zdl
  have zdl := hd.len
  have y2 : w3.cell? ⟨L, 2, none⟩ = some (.bool false) := O.l.cell 2
  have y3 : w3.cell? ⟨L, 3, none⟩ = some (.bool false) := O.l.cell 3
  have fin : ⟨6, none8, none8, x.dig, none8, 0, 0⟩ = onlyS x := by
    unfold onlyS
    rw [hk]
    rfl
  rw [fin] at O
  have zd : (onlyS x).dig.length = 32 := by rw [← fin]; exact zdl
  clear fin zdl
  have D1 := sl_loads O.y zd
  have D2 := sl_stores O.r zeros_dig.len zd
  have R1 := O.r.row (slV (onlyS x))
  have bel := below_row (cs := slV (onlyS x)) O.bel O.ne.2.2.2.2
  generalize w3.setRow R (slV (onlyS x)) = w9 at D2 R1 bel
  go_wp2_with (first | refine wpl_load D1 rfl rfl rfl ?_ | refine wpl_store D2 rfl rfl rfl rfl rfl ?_)
  exact bodyPost_ret (results_cell_row Tryz.results97 _ _ R 39 (slV (onlyS x)) (0, 0) _ rfl R1.heap Tryz.underlying39 rfl (by rw [slV_size zd]; kernel_rfl)) rfl ⟨rfl, bel⟩
end Go.Proofs.YtdmgobffhpgjlaaGreat.Sl
end

section
namespace Go.Proofs.YtdmgobffhpgjlaaGreat.Sl
open Go.RowKit Go.PlainAid Go.Proofs.YtdmgobffhpgjlaaGreat.Cr
set_option linter.unusedVariables false
set_option maxRecDepth 20000
set_option linter.unusedSimpArgs false

theorem only_any (x : Sp) (w : World) (hk : 1 ≤ x.k ∧ x.k ≤ 6) (hd : Dig x.dig) :
    Calls Tryz.prog 97 #[.agg (layV x.k), .agg (slV x)] w fun e w' => e = .returned (.agg (slV (onlyS x))) ∧ Below w.heap.size w w' := by
  have : x.k = 1 ∨ x.k = 2 ∨ x.k = 3 ∨ x.k = 4 ∨ x.k = 5 ∨ x.k = 6 := by omega
  rcases this with e | e | e | e | e | e <;> rw [e]
  · exact only_bind x w e hd
  · exact only_miss x w e hd
  · exact only_drop x w e hd
  · exact only_blob x w e hd
  · exact only_gone x w e hd
  · exact only_touch x w e hd
theorem only_dig {x : Sp} (hd : Dig x.dig) : Dig (onlyS x).dig := by
  unfold onlyS
  dsimp only
  split
  · exact hd
  · exact zeros_dig
def nameB (s : ByteArray) (m : Int) : Bool := decide (1 ≤ (s.size : Int)) && decide ((s.size : Int) ≤ m)
def numB (n m : Int) : Bool := decide (0 ≤ n) && decide (n ≤ m)
theorem only_iff (x : Sp) : x = onlyS x ↔ (hT x.k = false → x.repo = none8 ∧ x.tag = none8) ∧ (hD x.k = false → x.dig = zeros) ∧ (hM x.k = false → x.ty = none8 ∧ x.sz = 0) ∧ (hA x.k = false → x.tm = 0) := by
  obtain ⟨k, r, t, d, m, s, a⟩ := x
  unfold onlyS
  dsimp only
  cases hT k <;> cases hD k <;> cases hM k <;> cases hA k <;> simp <;> try simp [and_assoc]
open Classical in
theorem can_of {x : Sp} (hd : Dig x.dig) (hk : 1 ≤ x.k ∧ x.k ≤ 6) (hn : hT x.k = true → nameB x.repo 128 = true ∧ nameB x.tag 128 = true) (ht : x.ty.size ≤ 100) (hs : numB x.sz 1048576 = true) (ha : numB x.tm 1099511627776 = true) : canB x = decide (x = onlyS x) := by
  unfold canB
  rw [decide_eq_decide]
  constructor
  · intro h
    exact (only_iff x).2 ⟨h.noNames, h.noDig, h.noMedia, h.noTime⟩
  · intro h
    obtain ⟨h1, h2, h3, h4⟩ := (only_iff x).1 h
    unfold nameB at hn
    unfold numB at hs ha
    simp only [Bool.and_eq_true, decide_eq_true_eq] at hn hs ha
    exact ⟨hk, fun e => by have := hn e; omega, h1, h2, h3, h4, ht, hs, ha, hd⟩
theorem not_k {x : Sp} (hk : ¬ (1 ≤ x.k ∧ x.k ≤ 6)) : canB x = false := canB_no fun h => hk h.k
theorem not_repo {x : Sp} (e : hT x.k = true) (h : nameB x.repo 128 = false) : canB x = false := canB_no fun c => by
  have := c.names e
  unfold nameB at h
  simp only [Bool.and_eq_false_iff, decide_eq_false_iff_not] at h
  omega
theorem not_tag {x : Sp} (e : hT x.k = true) (h : nameB x.tag 128 = false) : canB x = false := canB_no fun c => by
  have := c.names e
  unfold nameB at h
  simp only [Bool.and_eq_false_iff, decide_eq_false_iff_not] at h
  omega
theorem not_ty {x : Sp} (h : ¬ x.ty.size ≤ 100) : canB x = false := canB_no fun c => h c.ty
theorem not_sz {x : Sp} (h : numB x.sz 1048576 = false) : canB x = false := canB_no fun c => by
  have := c.sz
  unfold numB at h
  simp only [Bool.and_eq_false_iff, decide_eq_false_iff_not] at h
  omega
theorem not_tm {x : Sp} (h : numB x.tm 1099511627776 = false) : canB x = false := canB_no fun c => by
  have := c.tm
  unfold numB at h
  simp only [Bool.and_eq_false_iff, decide_eq_false_iff_not] at h
  omega
theorem eq_lay (k : Int) (w : World) : (Op.equalIn 10000 146 (.agg (layV k)) (.agg #[.bool false, .bool false, .bool false, .bool false])).run Tryz.prog w = .ok (!(hT k || hD k || hM k || hA k)) w := by
  have hf : (Tryz.prog.fieldsOf 146).toList = [⟨ "tag", 4, 0, false, "", "manciple/slip", 0⟩, ⟨ "digest", 4, 1, false, "", "manciple/slip", 1⟩, ⟨ "media", 4, 2, false, "", "manciple/slip", 2⟩, ⟨ "time", 4, 3, false, "", "manciple/slip", 3⟩] := by kernel_rfl
  rw [run_equalIn_struct w 9999 146 (layV k) _ (by kernel_rfl) (by kernel_rfl), hf]
  clear hf
  have p := fun (cs : Array Value) (j : Nat) (v : Value) (h : cs[j]? = some v) => part_one (P := Tryz.prog) Tryz.underlying4 rfl h
  have q := fun (a b : Bool) => run_equalIn_bool' (P := Tryz.prog) w 9998 4 a b Tryz.underlying4
  simp only [Op.eqFields, Sem.run_bind, Sem.run_ite, Sem.run_pure, Result.andThen_ok, p (layV k) 0 (.bool (hT k)) rfl, p (layV k) 1 (.bool (hD k)) rfl, p (layV k) 2 (.bool (hM k)) rfl, p (layV k) 3 (.bool (hA k)) rfl, p #[.bool false, .bool false, .bool false, .bool false] 0 (.bool false) rfl, p #[.bool false, .bool false, .bool false, .bool false] 1 (.bool false) rfl, p #[.bool false, .bool false, .bool false, .bool false] 2 (.bool false) rfl, p #[.bool false, .bool false, .bool false, .bool false] 3 (.bool false) rfl, q]
  cases hT k <;> cases hD k <;> cases hM k <;> cases hA k <;> simp
theorem lay_some {k : Int} (h : 1 ≤ k ∧ k ≤ 6) : (!(hT k || hD k || hM k || hA k)) = false := by
  have : k = 1 ∨ k = 2 ∨ k = 3 ∨ k = 4 ∨ k = 5 ∨ k = 6 := by omega
  rcases this with e | e | e | e | e | e <;> subst e <;> rfl
theorem lay_none {k : Int} (h : ¬ (1 ≤ k ∧ k ≤ 6)) : (!(hT k || hD k || hM k || hA k)) = true := by
  have h1 : k ≠ 1 ∧ k ≠ 2 ∧ k ≠ 3 ∧ k ≠ 4 ∧ k ≠ 5 ∧ k ≠ 6 := by omega
  obtain ⟨h1, h2, h3, h4, h5, h6⟩ := h1
  simp [hT, hD, hM, hA, h1, h2, h3, h4, h5, h6]
/-- what Good holds in memory -/
structure Gd (w0 w : World) (B L : Nat) (x : Sp) : Prop where
  sx : At w B 39 (slV x)
  ly : At w L 146 (layV x.k)
  bel : Below w0.heap.size w0 w
theorem Gd.below {w0 w w' : World} {B L : Nat} {x : Sp} (h : Gd w0 w B L x) (hb : Below w.heap.size w w') : Gd w0 w' B L x := ⟨h.sx.old hb, h.ly.old hb, h.bel.trans (hb.mono h.bel.size)⟩
theorem Gd.drew {w0 w : World} {B L : Nat} {x : Sp} (h : Gd w0 w B L x) : Gd w0 w.drew B L x := ⟨h.sx.drew, h.ly.drew, h.bel.drew⟩
set_option maxHeartbeats 4000000 in
theorem good_none (x : Sp) (w : World) (hk : ¬ (1 ≤ x.k ∧ x.k ≤ 6)) :
    Calls Tryz.prog 72 #[.agg (slV x)] w fun e w' => e = .returned (.bool (canB x)) ∧ Below w.heap.size w w' := by
  rw [not_k hk]
  have q0 := eq_lay x.k
  rw [lay_none hk] at q0
  have X := At.new w 39 (slV x)
  have F : Below w.heap.size w (w.alloc (.cells (slV x) 39)) := (Below.refl _ _).alloc (Nat.le_refl _) _
  go_enter Tryz.func72, Tryz.ntmps72
  go_upto_region 1 with (fail)
  obtain ⟨B, hB⟩ : ∃ B, B = w.heap.size := ⟨_, rfl⟩
  rw [← hB] at X ⊢
  generalize w.alloc (.cells (slV x) 39) = w1 at X F ⊢
  have HB := Lib.hid hB
  clear hB
  have c0 : w1.cell? ⟨B, 0, none⟩ = some (.int .i64 x.k) := X.cell 0
  go_wp2_with fail
  refine (layout_any x.k _).mono ?_
  rintro e w2 ⟨rfl, G1⟩
  replace X := X.old G1
  replace F := F.trans (G1.mono F.size)
  clear G1 c0
  obtain ⟨w3, S3, Y, G2, Z3⟩ := keep (P := Tryz.prog) (ty := 146) w2 #[.bool false, .bool false, .bool false, .bool false] (layV x.k) 146 (by kernel_rfl) rfl (lay_one x.k)
  replace X := X.old G2
  replace F := F.trans (G2.mono F.size)
  have LY := Y.loads (P := Tryz.prog) (ty := 146) (by kernel_rfl) (by kernel_rfl)
  clear G2 Z3
  go_upto_region 2 with (refine wpl_store S3 rfl rfl rfl rfl rfl ?_)
  clear S3
  generalize w2.heap.size = L at Y LY ⊢
  have G : Gd w w3 B L x := ⟨X, Y, F⟩
  clear X F
  go_wp2_with (refine wpl_load LY rfl rfl rfl ?_)
  go_ret
  exact ⟨rfl, G.bel⟩
structure Okay (x : Sp) : Prop where
  repo : x.repo.size ≤ 9223372036854775807
  tag : x.tag.size ≤ 9223372036854775807
  ty : x.ty.size ≤ 9223372036854775807
  dig : Dig x.dig
set_option maxHeartbeats 4000000 in
theorem good_names (x : Sp) (w : World) (hk : 1 ≤ x.k ∧ x.k ≤ 6) (eT : hT x.k = true) (ok : Okay x) :
    Calls Tryz.prog 72 #[.agg (slV x)] w fun e w' => e = .returned (.bool (canB x)) ∧ Below w.heap.size w w' := by
  have hd := ok.dig
  have hod := only_dig hd
  have z1 := ok.repo
  have z2 := ok.tag
  have z3 := ok.ty
  have q0 := eq_lay x.k
  rw [lay_some hk] at q0
  obtain ⟨r, hr⟩ : ∃ r, canB x = r := ⟨_, rfl⟩
  rw [hr]
  have HR := Lib.hid hr
  clear hr
  have X := At.new w 39 (slV x)
  have F : Below w.heap.size w (w.alloc (.cells (slV x) 39)) := (Below.refl _ _).alloc (Nat.le_refl _) _
  go_enter Tryz.func72, Tryz.ntmps72
  go_upto_region 1 with (fail)
  obtain ⟨B, hB⟩ : ∃ B, B = w.heap.size := ⟨_, rfl⟩
  rw [← hB] at X ⊢
  generalize w.alloc (.cells (slV x) 39) = w1 at X F ⊢
  have HB := Lib.hid hB
  clear hB
  have c0 : w1.cell? ⟨B, 0, none⟩ = some (.int .i64 x.k) := X.cell 0
  go_wp2_with fail
  refine (layout_any x.k _).mono ?_
  rintro e w2 ⟨rfl, G1⟩
  replace X := X.old G1
  replace F := F.trans (G1.mono F.size)
  clear G1 c0
  obtain ⟨w3, S3, Y, G2, Z3⟩ := keep (P := Tryz.prog) (ty := 146) w2 #[.bool false, .bool false, .bool false, .bool false] (layV x.k) 146 (by kernel_rfl) rfl (lay_one x.k)
  replace X := X.old G2
  replace F := F.trans (G2.mono F.size)
  have LY := Y.loads (P := Tryz.prog) (ty := 146) (by kernel_rfl) (by kernel_rfl)
  clear G2 Z3
  go_upto_region 2 with (refine wpl_store S3 rfl rfl rfl rfl rfl ?_)
  clear S3
  generalize w2.heap.size = L at Y LY ⊢
  have G : Gd w w3 B L x := ⟨X, Y, F⟩
  clear X F
  go_upto_region 4 with (refine wpl_load LY rfl rfl rfl ?_)
  clear LY q0
  have y0 : w3.cell? ⟨L, 0, none⟩ = some (.bool true) := by rw [Y.cell]; show some (Value.bool (hT x.k)) = _; rw [eT]
  have c1 : w3.cell? ⟨B, 1, none⟩ = some (.string x.repo) := G.sx.cell 1
  have c2 : w3.cell? ⟨B, 2, none⟩ = some (.string x.tag) := G.sx.cell 2
  have c35 : w3.cell? ⟨B, 35, none⟩ = some (.string x.ty) := (G.sx.cell 35).trans (sl35 hd.len)
  have c36 : w3.cell? ⟨B, 36, none⟩ = some (.int .i64 x.sz) := (G.sx.cell 36).trans (sl36 hd.len)
  have c37 : w3.cell? ⟨B, 37, none⟩ = some (.int .i64 x.tm) := (G.sx.cell 37).trans (sl37 hd.len)
  clear Y
  go_wp2_with fail
  refine (isName_any x.repo 128 _ z1).mono ?_
  rintro e w' ⟨rfl, rfl⟩
  rw [show (decide (1 ≤ (x.repo.size : Int)) && decide ((x.repo.size : Int) ≤ 128)) = nameB x.repo 128 from rfl]
  cases n1 : nameB x.repo 128 with
  | false =>
    have er : r = false := by rw [← HR.out]; exact not_repo eT n1
    subst er
    clear n1
    go_wp2
    go_ret
    exact ⟨rfl, G.bel⟩
  | true =>
    have N1 := Lib.hid n1
    clear n1
    go_wp2_with fail
    refine (isName_any x.tag 128 _ z2).mono ?_
    rintro e w' ⟨rfl, rfl⟩
    rw [show (decide (1 ≤ (x.tag.size : Int)) && decide ((x.tag.size : Int) ≤ 128)) = nameB x.tag 128 from rfl]
    cases n2 : nameB x.tag 128 with
    | false =>
      have er : r = false := by rw [← HR.out]; exact not_tag eT n2
      subst er
      clear n2
      go_wp2
      go_ret
      exact ⟨rfl, G.bel⟩
    | true =>
      have N2 : Hid (hT x.k = true → nameB x.repo 128 = true ∧ nameB x.tag 128 = true) := Lib.hid fun _ => ⟨N1.out, n2⟩
      clear n2 N1 c1 c2
      by_cases ht : x.ty.size ≤ 100
      · have l1 : (x.ty.size : Int) ≤ 100 := by omega
        go_wp2_with fail
        refine (isNumber_any x.sz 1048576 _).mono ?_
        rintro e w' ⟨rfl, rfl⟩
        rw [show (decide (0 ≤ x.sz) && decide (x.sz ≤ 1048576)) = numB x.sz 1048576 from rfl]
        cases n3 : numB x.sz 1048576 with
        | false =>
          have er : r = false := by rw [← HR.out]; exact not_sz n3
          subst er
          clear n3
          go_wp2
          go_ret
          exact ⟨rfl, G.bel⟩
        | true =>
          have N3 := Lib.hid n3
          clear n3
          go_wp2_with fail
          refine (isNumber_any x.tm 1099511627776 _).mono ?_
          rintro e w' ⟨rfl, rfl⟩
          rw [show (decide (0 ≤ x.tm) && decide (x.tm ≤ 1099511627776)) = numB x.tm 1099511627776 from rfl]
          cases n4 : numB x.tm 1099511627776 with
          | false =>
            have er : r = false := by rw [← HR.out]; exact not_tm n4
            subst er
            clear n4
            go_wp2
            go_ret
            exact ⟨rfl, G.bel⟩
          | true =>
            obtain ⟨q, hq⟩ : ∃ q, @decide (x = onlyS x) (Classical.propDecidable _) = q := ⟨_, rfl⟩
            have er : r = q := by rw [← HR.out, can_of hd hk N2.out ht N3.out n4, hq]
            subst er
            clear n4 N2 N3 HR
            go_upto_region 8 with (fail)
            refine wp_region_held (S := fun y => Gd w y B L x) (by kernel_rfl) ?_
            change wpAnyH _ _ _ _ _ _ _ _ w3.drew
            replace G := G.drew
            clear c35 c36 c37
            generalize w3.drew = w4 at G ⊢
            have LX : Hid (∀ y, Gd w y B L x → Loads Tryz.prog y 39 ⟨B, 0, none⟩ (slV x)) := Lib.hid fun y j => sl_loads j.sx hd.len
            have LL : Hid (∀ y, Gd w y B L x → Loads Tryz.prog y 146 ⟨L, 0, none⟩ (layV x.k)) := Lib.hid fun y j => j.ly.loads (by kernel_rfl) (by kernel_rfl)
            have q1 := eq_slip hd hod
            rw [hq] at q1
            refine held_take 0 (.agg (slV x)) rfl (by kernel_rfl) (by kernel_rfl) (by kernel_rfl) (fun _ _ _ h => h) (yields_load LX.out rfl rfl rfl) G (fun K hK => ?_)
            go_simp
            refine hK _ _ ?_
            clear hK K
            refine held_take 1 (.agg (layV x.k)) rfl (by kernel_rfl) (by kernel_rfl) (by kernel_rfl) (fun _ _ _ h => h) (yields_load LL.out rfl rfl rfl) G (fun K hK => ?_)
            go_simp
            refine hK _ _ ?_
            clear hK K
            refine held_take 2 (.agg (slV x)) rfl (by kernel_rfl) (by kernel_rfl) (by kernel_rfl) (fun _ _ _ h => h) (yields_load LX.out rfl rfl rfl) G (fun K hK => ?_)
            go_simp
            refine hK _ _ ?_
            clear hK K
            refine held_one 3 (by kernel_rfl) (fun K hK => wpOp_in rfl rfl ?_)
            go_simp
            refine (only_any x _ hk hd).mono ?_
            rintro e w6 ⟨rfl, hb⟩
            replace G := G.below hb
            refine hK _ _ G ?_
            clear hK K
            refine held_take 4 (.bool r) rfl (by kernel_rfl) (by kernel_rfl) (by kernel_rfl) (fun _ _ _ h => h) (Or.inl ⟨by rfl, fun x j => by go_simp⟩) G (fun K hK => ?_)
            go_simp
            refine hK _ _ ?_
            clear hK K
            refine held_take 5 (.bool r) rfl (by kernel_rfl) (by kernel_rfl) (by kernel_rfl) (fun _ _ _ h => h) (Or.inl ⟨by rfl, fun x j => by go_simp⟩) G (fun K hK => ?_)
            go_simp
            refine hK _ _ ?_
            clear hK K
            refine wpAnyH_done (by kernel_rfl) ?_ _
            go_wp2
            go_ret
            exact ⟨rfl, G.bel⟩
      · have l1 : 100 < (x.ty.size : Int) := by omega
        have er : r = false := by rw [← HR.out]; exact not_ty ht
        subst er
        go_wp2
        go_ret
        exact ⟨rfl, G.bel⟩
set_option maxHeartbeats 4000000 in
theorem good_plain (x : Sp) (w : World) (hk : 1 ≤ x.k ∧ x.k ≤ 6) (eT : hT x.k = false) (ok : Okay x) :
    Calls Tryz.prog 72 #[.agg (slV x)] w fun e w' => e = .returned (.bool (canB x)) ∧ Below w.heap.size w w' := by
  have hd := ok.dig
  have hod := only_dig hd
  have z1 := ok.repo
  have z2 := ok.tag
  have z3 := ok.ty
  have q0 := eq_lay x.k
  rw [lay_some hk] at q0
  obtain ⟨r, hr⟩ : ∃ r, canB x = r := ⟨_, rfl⟩
  rw [hr]
  have HR := Lib.hid hr
  clear hr
  have X := At.new w 39 (slV x)
  have F : Below w.heap.size w (w.alloc (.cells (slV x) 39)) := (Below.refl _ _).alloc (Nat.le_refl _) _
  go_enter Tryz.func72, Tryz.ntmps72
  go_upto_region 1 with (fail)
  obtain ⟨B, hB⟩ : ∃ B, B = w.heap.size := ⟨_, rfl⟩
  rw [← hB] at X ⊢
  generalize w.alloc (.cells (slV x) 39) = w1 at X F ⊢
  have HB := Lib.hid hB
  clear hB
  have c0 : w1.cell? ⟨B, 0, none⟩ = some (.int .i64 x.k) := X.cell 0
  go_wp2_with fail
  refine (layout_any x.k _).mono ?_
  rintro e w2 ⟨rfl, G1⟩
  replace X := X.old G1
  replace F := F.trans (G1.mono F.size)
  clear G1 c0
  obtain ⟨w3, S3, Y, G2, Z3⟩ := keep (P := Tryz.prog) (ty := 146) w2 #[.bool false, .bool false, .bool false, .bool false] (layV x.k) 146 (by kernel_rfl) rfl (lay_one x.k)
  replace X := X.old G2
  replace F := F.trans (G2.mono F.size)
  have LY := Y.loads (P := Tryz.prog) (ty := 146) (by kernel_rfl) (by kernel_rfl)
  clear G2 Z3
  go_upto_region 2 with (refine wpl_store S3 rfl rfl rfl rfl rfl ?_)
  clear S3
  generalize w2.heap.size = L at Y LY ⊢
  have G : Gd w w3 B L x := ⟨X, Y, F⟩
  clear X F
  go_upto_region 4 with (refine wpl_load LY rfl rfl rfl ?_)
  clear LY q0
  have y0 : w3.cell? ⟨L, 0, none⟩ = some (.bool false) := by rw [Y.cell]; show some (Value.bool (hT x.k)) = _; rw [eT]
  have c35 : w3.cell? ⟨B, 35, none⟩ = some (.string x.ty) := (G.sx.cell 35).trans (sl35 hd.len)
  have c36 : w3.cell? ⟨B, 36, none⟩ = some (.int .i64 x.sz) := (G.sx.cell 36).trans (sl36 hd.len)
  have c37 : w3.cell? ⟨B, 37, none⟩ = some (.int .i64 x.tm) := (G.sx.cell 37).trans (sl37 hd.len)
  clear Y
  have N2 : Hid (hT x.k = true → nameB x.repo 128 = true ∧ nameB x.tag 128 = true) := Lib.hid fun h => by rw [eT] at h; cases h
  by_cases ht : x.ty.size ≤ 100
  · have l1 : (x.ty.size : Int) ≤ 100 := by omega
    go_wp2_with fail
    refine (isNumber_any x.sz 1048576 _).mono ?_
    rintro e w' ⟨rfl, rfl⟩
    rw [show (decide (0 ≤ x.sz) && decide (x.sz ≤ 1048576)) = numB x.sz 1048576 from rfl]
    cases n3 : numB x.sz 1048576 with
    | false =>
      have er : r = false := by rw [← HR.out]; exact not_sz n3
      subst er
      clear n3
      go_wp2
      go_ret
      exact ⟨rfl, G.bel⟩
    | true =>
      have N3 := Lib.hid n3
      clear n3
      go_wp2_with fail
      refine (isNumber_any x.tm 1099511627776 _).mono ?_
      rintro e w' ⟨rfl, rfl⟩
      rw [show (decide (0 ≤ x.tm) && decide (x.tm ≤ 1099511627776)) = numB x.tm 1099511627776 from rfl]
      cases n4 : numB x.tm 1099511627776 with
      | false =>
        have er : r = false := by rw [← HR.out]; exact not_tm n4
        subst er
        clear n4
        go_wp2
        go_ret
        exact ⟨rfl, G.bel⟩
      | true =>
        obtain ⟨q, hq⟩ : ∃ q, @decide (x = onlyS x) (Classical.propDecidable _) = q := ⟨_, rfl⟩
        have er : r = q := by rw [← HR.out, can_of hd hk N2.out ht N3.out n4, hq]
        subst er
        clear n4 N2 N3 HR
        go_upto_region 8 with (fail)
        refine wp_region_held (S := fun y => Gd w y B L x) (by kernel_rfl) ?_
        change wpAnyH _ _ _ _ _ _ _ _ w3.drew
        replace G := G.drew
        clear c35 c36 c37
        generalize w3.drew = w4 at G ⊢
        have LX : Hid (∀ y, Gd w y B L x → Loads Tryz.prog y 39 ⟨B, 0, none⟩ (slV x)) := Lib.hid fun y j => sl_loads j.sx hd.len
        have LL : Hid (∀ y, Gd w y B L x → Loads Tryz.prog y 146 ⟨L, 0, none⟩ (layV x.k)) := Lib.hid fun y j => j.ly.loads (by kernel_rfl) (by kernel_rfl)
        have q1 := eq_slip hd hod
        rw [hq] at q1
        refine held_take 0 (.agg (slV x)) rfl (by kernel_rfl) (by kernel_rfl) (by kernel_rfl) (fun _ _ _ h => h) (yields_load LX.out rfl rfl rfl) G (fun K hK => ?_)
        go_simp
        refine hK _ _ ?_
        clear hK K
        refine held_take 1 (.agg (layV x.k)) rfl (by kernel_rfl) (by kernel_rfl) (by kernel_rfl) (fun _ _ _ h => h) (yields_load LL.out rfl rfl rfl) G (fun K hK => ?_)
        go_simp
        refine hK _ _ ?_
        clear hK K
        refine held_take 2 (.agg (slV x)) rfl (by kernel_rfl) (by kernel_rfl) (by kernel_rfl) (fun _ _ _ h => h) (yields_load LX.out rfl rfl rfl) G (fun K hK => ?_)
        go_simp
        refine hK _ _ ?_
        clear hK K
        refine held_one 3 (by kernel_rfl) (fun K hK => wpOp_in rfl rfl ?_)
        go_simp
        refine (only_any x _ hk hd).mono ?_
        rintro e w6 ⟨rfl, hb⟩
        replace G := G.below hb
        refine hK _ _ G ?_
        clear hK K
        refine held_take 4 (.bool r) rfl (by kernel_rfl) (by kernel_rfl) (by kernel_rfl) (fun _ _ _ h => h) (Or.inl ⟨by rfl, fun x j => by go_simp⟩) G (fun K hK => ?_)
        go_simp
        refine hK _ _ ?_
        clear hK K
        refine held_take 5 (.bool r) rfl (by kernel_rfl) (by kernel_rfl) (by kernel_rfl) (fun _ _ _ h => h) (Or.inl ⟨by rfl, fun x j => by go_simp⟩) G (fun K hK => ?_)
        go_simp
        refine hK _ _ ?_
        clear hK K
        refine wpAnyH_done (by kernel_rfl) ?_ _
        go_wp2
        go_ret
        exact ⟨rfl, G.bel⟩
  · have l1 : 100 < (x.ty.size : Int) := by omega
    have er : r = false := by rw [← HR.out]; exact not_ty ht
    subst er
    go_wp2
    go_ret
    exact ⟨rfl, G.bel⟩
theorem good_any (x : Sp) (w : World) (ok : Okay x) :
    Calls Tryz.prog 72 #[.agg (slV x)] w fun e w' => e = .returned (.bool (canB x)) ∧ Below w.heap.size w w' := by
  by_cases hk : 1 ≤ x.k ∧ x.k ≤ 6
  · cases e : hT x.k
    · exact good_plain x w hk e ok
    · exact good_names x w hk e ok
  · exact good_none x w hk
end Go.Proofs.YtdmgobffhpgjlaaGreat.Sl
end
