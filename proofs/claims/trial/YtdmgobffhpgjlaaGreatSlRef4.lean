/-
  The document's Parse.
-/
import Derived.Test.YtdmgobffhpgjlaaGreatSlPar2
import Derived.Test.YtdmgobffhpgjlaaGreatSlRead2

namespace Go.Proofs.YtdmgobffhpgjlaaGreat.Sl
open Go.RowKit Go.PlainAid Go.Proofs.YtdmgobffhpgjlaaGreat.Cr
set_option linter.unusedVariables false
set_option maxRecDepth 20000
set_option linter.unusedSimpArgs false

theorem results_cellTmp {P : Program} {fn : Func} {p q : Tmp} {ty : TypeId} (h : fn.results = #[.cell p ty, .tmp q]) (tmps : Array Value) {w : World} {g : Nat} {cs : Array Value} {v : Value}
    (hp : tmps.getD p undef = .pointer (some ⟨g, 0, none⟩)) (hq : tmps.getD q undef = v) (hl : Loads P w ty ⟨g, 0, none⟩ cs) :
    (results fn tmps).run P w = .ok (.tuple #[.agg cs, v]) w := by
  have hp' : tmps[p]?.getD undef = .pointer (some ⟨g, 0, none⟩) := by simpa using hp
  have hq' : tmps[q]?.getD undef = v := by simpa using hq
  have hl' : (loadVar ty ⟨g, 0, none⟩).run P w = .ok (.agg cs) w := hl
  simp [results, h, hp', hq', asAddr, hl']
/-- the answer's variable, the slip, what it has -/
structure PS (w0 w : World) (R Y L : Nat) (k : Int) (y : Sp) : Prop where
  rs : At w R 39 (slV Sp.zero)
  sy : At w Y 39 (slV y)
  ly : At w L 129 (layV k)
  bel : Below w0.heap.size w0 w
  ne : R ≠ Y ∧ L ≠ Y ∧ w0.heap.size ≤ Y ∧ w0.heap.size ≤ R
section
variable {w0 w w' : World} {R Y L : Nat} {k : Int} {y y' : Sp}
theorem PS.below (h : PS w0 w R Y L k y) (hb : Below w.heap.size w w') : PS w0 w' R Y L k y := ⟨h.rs.old hb, h.sy.old hb, h.ly.old hb, h.bel.trans (hb.mono h.bel.size), h.ne⟩
theorem PS.drewN (h : PS w0 w R Y L k y) (n : Nat) : PS w0 (w.drewN n) R Y L k y := h.below (below_drewN (Below.refl _ _) n)
theorem PS.drew (h : PS w0 w R Y L k y) : PS w0 w.drew R Y L k y := h.below ((Below.refl _ _).drew)
theorem below_cell {B : Nat} (h : Below B w0 w) {Y : Nat} (hY : B ≤ Y) (j : Nat) (v : Value) : Below B w0 (w.setCell ⟨Y, j, none⟩ v) :=
  ⟨h.os, h.tape, h.output, by simpa [World.setCell] using h.size, fun k hk => (Below.heap_setCell _ _ _ _ (by simp; omega)).trans (h.block k hk)⟩
theorem PS.set (h : PS w0 w R Y L k y) (j : Nat) (v : Value) (e : (slV y).setIfInBounds j v = slV y') : PS w0 (w.setCell ⟨Y, j, none⟩ v) R Y L k y' :=
  ⟨h.rs.other h.ne.1 v, by rw [← e]; exact h.sy.set j v, h.ly.other h.ne.2.1 v, below_cell h.bel h.ne.2.2.1 j v, h.ne⟩
end
theorem tkF_size (s : ByteArray) (a : Int) : (tkF s a).1.size ≤ s.size := by
  unfold tkF
  split
  · exact Nat.zero_le _
  · show (s.extract _ _).size ≤ _
    rw [ByteArray.size_extract]; omega
theorem ps_okay (s : ByteArray) (h : s.size ≤ 9223372036854775807) : Okay (psX s) := by
  have z : none8.size ≤ s.size := Nat.zero_le _
  refine ⟨?_, ?_, ?_, ?_⟩
  · refine Nat.le_trans (m := s.size) ?_ h
    show (uT _ s).1.1.size ≤ _
    unfold uT; split
    · exact tkF_size _ _
    · exact z
  · refine Nat.le_trans (m := s.size) ?_ h
    show (uT _ s).1.2.size ≤ _
    unfold uT; split
    · exact tkF_size _ _
    · exact z
  · refine Nat.le_trans (m := s.size) ?_ h
    show (uM _ s _).1.1.size ≤ _
    unfold uM; split
    · exact tkF_size _ _
    · exact z
  · show Dig (uD _ s _).1
    unfold uD; split
    · exact dgF_dig _ _
    · exact zeros_dig
def dgI (s : ByteArray) (m j : Nat) : List Nat := ((bl s).drop m).take j ++ zeros.drop j
theorem dgI_zero (s : ByteArray) (m : Nat) : dgI s m 0 = zeros := by simp [dgI]
theorem part_len {s : ByteArray} {m j : Nat} (h : m + 32 ≤ s.size) (hj : j ≤ 32) : (((bl s).drop m).take j).length = j := by rw [List.length_take, List.length_drop, bl_len]; omega
theorem dgI_len {s : ByteArray} {m j : Nat} (h : m + 32 ≤ s.size) (hj : j ≤ 32) : (dgI s m j).length = 32 := by
  unfold dgI
  rw [List.length_append, part_len h hj, List.length_drop, zeros_dig.len]; omega
theorem dgI_get {s : ByteArray} {m j : Nat} (h : m + 32 ≤ s.size) (hj : j < 32) : (dgI s m j)[j]? = some 0 := by
  unfold dgI
  rw [List.getElem?_append_right (by rw [part_len h (by omega)]; omega), part_len h (by omega), Nat.sub_self, List.getElem?_drop]
  unfold zeros
  rw [List.getElem?_replicate, if_pos (by omega)]
theorem dgI_step {s : ByteArray} {m j : Nat} (h : m + 32 ≤ s.size) (hj : j < 32) : (dgI s m j).set j (bn s (m + j)) = dgI s m (j + 1) := by
  unfold dgI
  rw [part_snoc (by omega), List.set_append_right _ _ (by rw [part_len h (by omega)]; omega), part_len h (by omega), Nat.sub_self, List.append_assoc]
  congr 1
  rw [List.drop_eq_getElem_cons (by rw [zeros_dig.len]; exact hj)]
  rfl
theorem dgI_end {s : ByteArray} {m : Nat} (h : m + 32 ≤ s.size) : dgI s m 32 = (dgF s (m : Int)).1 := by
  rw [dgF_yes h]
  unfold dgI
  have z : zeros.drop 32 = [] := List.drop_of_length_le (by rw [zeros_dig.len]; omega)
  rw [z, List.append_nil]
def ParsePost (s : ByteArray) (w : World) (e : Ending) (w' : World) : Prop := ((psA s = s.size ∧ Can (psX s) ∧ e = .returned (.tuple #[.agg (slV (psX s)), .bool true])) ∨ (¬ (psA s = s.size ∧ Can (psX s)) ∧ e = .returned (.tuple #[.agg (slV Sp.zero), .bool false]))) ∧ Below w.heap.size w w'
set_option maxRecDepth 100000 in
set_option maxHeartbeats 2000000 in
theorem rparse_empty (s : ByteArray) (w : World) (hz : s.size ≤ 1000000) (h : s.size = 0) :
    Calls Tryz.prog 92 #[.string s] w fun e w' => ParsePost s w e w' := by
  have NC : Hid (¬ (psA s = s.size ∧ Can (psX s))) := Lib.hid fun c => by
    have h := c.2.k
    have h' : 1 ≤ psK s ∧ psK s ≤ 6 := h
    unfold psK at h'
    have h2 : bn s 0 = 0 := by unfold bn bt; rw [dif_neg (by omega)]; rfl
    omega
  have e := empty_of h
  subst e
  clear h
  obtain ⟨R, e0, st⟩ := ans_start w
  have E0 := Lib.hid e0; have ST := Lib.hid st
  clear e0 st
  go_enter Tryz.func92, Tryz.ntmps92
  go_upto_region 1 with (fail)
  rw [← E0.out]
  obtain ⟨w1, hw1⟩ : ∃ w1, w1 = w.alloc (.cells #[.int .i64 0, .string ⟨#[]⟩, .string ⟨#[]⟩, .int .u8 0, .int .u8 0, .int .u8 0, .int .u8 0, .int .u8 0, .int .u8 0, .int .u8 0, .int .u8 0, .int .u8 0, .int .u8 0, .int .u8 0, .int .u8 0, .int .u8 0, .int .u8 0, .int .u8 0, .int .u8 0, .int .u8 0, .int .u8 0, .int .u8 0, .int .u8 0, .int .u8 0, .int .u8 0, .int .u8 0, .int .u8 0, .int .u8 0, .int .u8 0, .int .u8 0, .int .u8 0, .int .u8 0, .int .u8 0, .int .u8 0, .int .u8 0, .string ⟨#[]⟩, .int .i64 0, .int .i64 0] 39) := ⟨_, rfl⟩
  obtain ⟨hr, hb⟩ := ST.out _ hw1
  rw [← hw1]
  clear hw1 ST
  have HRL := Lib.hid hr.lt
  obtain ⟨w3, S3, hy, G3, Z3⟩ := k_keep w1 0
  replace hr := hr.old G3
  replace hb := hb.trans (G3.mono hb.size)
  clear G3 Z3
  go_upto_region 2 with (refine wpl_store S3 rfl rfl rfl rfl rfl ?_)
  clear S3
  generalize w1.heap.size = Y at hy ⊢
  have hy' : At w3 Y 39 (slV Sp.zero) := hy
  have E0' : w.heap.size ≤ R := by have := E0.out; omega
  have LY := sl_loads hy' zeros_dig.len
  have S := sl_stores hr zeros_dig.len (y := Sp.zero) zeros_dig.len
  have R1 := hr.row (slV Sp.zero)
  have F1 := below_row (B := R) (cs := slV Sp.zero) hb E0'
  clear hy
  generalize w3.setRow R (slV Sp.zero) = w7 at S R1 F1
  go_wp2_with (first | refine wpl_load LY rfl rfl rfl ?_ | refine wpl_store S rfl rfl rfl rfl rfl ?_)
  exact bodyPost_ret (results_cellTmp Tryz.results92 _ rfl rfl (sl_loads R1 zeros_dig.len)) rfl ⟨.inr ⟨NC.out, rfl⟩, F1⟩
set_option maxRecDepth 100000 in
set_option maxHeartbeats 2000000 in
theorem rparse_low (s : ByteArray) (w : World) (hz : s.size ≤ 1000000) (hs : 1 ≤ s.size) (hk : bn s 0 = 0) :
    Calls Tryz.prog 92 #[.string s] w fun e w' => ParsePost s w e w' := by
  have NC : Hid (¬ (psA s = s.size ∧ Can (psX s))) := Lib.hid fun c => by
    have h := c.2.k
    have h' : 1 ≤ psK s ∧ psK s ≤ 6 := h
    unfold psK at h'
    omega
  have hb0 : bt s 0 = 0 := by rw [← bn_bt, hk]; rfl
  have gb : ∀ (h : 0 < s.size), ((s[0]'h).toNat : Int) = 0 := fun h => (get_bt s 0 h).trans hb0
  have l0 : ((s.size : Int) == 0) = false := by rw [beq_eq_false_iff_ne]; omega
  have l1 : (0 : Int) < (s.size : Int) := by omega
  clear hb0 hk
  obtain ⟨R, e0, st⟩ := ans_start w
  have E0 := Lib.hid e0; have ST := Lib.hid st
  clear e0 st
  go_enter Tryz.func92, Tryz.ntmps92
  go_upto_region 1 with (fail)
  rw [← E0.out]
  obtain ⟨w1, hw1⟩ : ∃ w1, w1 = w.alloc (.cells #[.int .i64 0, .string ⟨#[]⟩, .string ⟨#[]⟩, .int .u8 0, .int .u8 0, .int .u8 0, .int .u8 0, .int .u8 0, .int .u8 0, .int .u8 0, .int .u8 0, .int .u8 0, .int .u8 0, .int .u8 0, .int .u8 0, .int .u8 0, .int .u8 0, .int .u8 0, .int .u8 0, .int .u8 0, .int .u8 0, .int .u8 0, .int .u8 0, .int .u8 0, .int .u8 0, .int .u8 0, .int .u8 0, .int .u8 0, .int .u8 0, .int .u8 0, .int .u8 0, .int .u8 0, .int .u8 0, .int .u8 0, .int .u8 0, .string ⟨#[]⟩, .int .i64 0, .int .i64 0] 39) := ⟨_, rfl⟩
  obtain ⟨hr, hb⟩ := ST.out _ hw1
  rw [← hw1]
  clear hw1 ST
  have HRL := Lib.hid hr.lt
  obtain ⟨w3, S3, hy, G3, Z3⟩ := k_keep w1 0
  replace hr := hr.old G3
  replace hb := hb.trans (G3.mono hb.size)
  clear G3 Z3
  go_upto_region 2 with (refine wpl_store S3 rfl rfl rfl rfl rfl ?_)
  clear S3
  generalize w1.heap.size = Y at hy ⊢
  have hy' : At w3 Y 39 (slV Sp.zero) := hy
  have E0' : w.heap.size ≤ R := by have := E0.out; omega
  have LY := sl_loads hy' zeros_dig.len
  have S := sl_stores hr zeros_dig.len (y := Sp.zero) zeros_dig.len
  have R1 := hr.row (slV Sp.zero)
  have F1 := below_row (B := R) (cs := slV Sp.zero) hb E0'
  clear hy
  generalize w3.setRow R (slV Sp.zero) = w7 at S R1 F1
  go_wp2_with (first | refine wpl_load LY rfl rfl rfl ?_ | refine wpl_store S rfl rfl rfl rfl rfl ?_)
  exact bodyPost_ret (results_cellTmp Tryz.results92 _ rfl rfl (sl_loads R1 zeros_dig.len)) rfl ⟨.inr ⟨NC.out, rfl⟩, F1⟩
set_option maxRecDepth 100000 in
set_option maxHeartbeats 2000000 in
theorem rparse_high (s : ByteArray) (w : World) (hz : s.size ≤ 1000000) (hs : 1 ≤ s.size) (hk : 6 < bn s 0) :
    Calls Tryz.prog 92 #[.string s] w fun e w' => ParsePost s w e w' := by
  have NC : Hid (¬ (psA s = s.size ∧ Can (psX s))) := Lib.hid fun c => by
    have h := c.2.k
    have h' : 1 ≤ psK s ∧ psK s ≤ 6 := h
    unfold psK at h'
    omega
  have gb : ∀ (h : 0 < s.size), ((s[0]'h).toNat : Int) = (bn s 0 : Int) := fun h => (get_bt s 0 h).trans (bn_bt s 0).symm
  have l0 : ((s.size : Int) == 0) = false := by rw [beq_eq_false_iff_ne]; omega
  have l1 : (0 : Int) < (s.size : Int) := by omega
  have l2 : ¬ (bn s 0 : Int) < 1 := by omega
  have l3 : (6 : Int) < (bn s 0 : Int) := by omega
  obtain ⟨R, e0, st⟩ := ans_start w
  have E0 := Lib.hid e0; have ST := Lib.hid st
  clear e0 st
  go_enter Tryz.func92, Tryz.ntmps92
  go_upto_region 1 with (fail)
  rw [← E0.out]
  obtain ⟨w1, hw1⟩ : ∃ w1, w1 = w.alloc (.cells #[.int .i64 0, .string ⟨#[]⟩, .string ⟨#[]⟩, .int .u8 0, .int .u8 0, .int .u8 0, .int .u8 0, .int .u8 0, .int .u8 0, .int .u8 0, .int .u8 0, .int .u8 0, .int .u8 0, .int .u8 0, .int .u8 0, .int .u8 0, .int .u8 0, .int .u8 0, .int .u8 0, .int .u8 0, .int .u8 0, .int .u8 0, .int .u8 0, .int .u8 0, .int .u8 0, .int .u8 0, .int .u8 0, .int .u8 0, .int .u8 0, .int .u8 0, .int .u8 0, .int .u8 0, .int .u8 0, .int .u8 0, .int .u8 0, .string ⟨#[]⟩, .int .i64 0, .int .i64 0] 39) := ⟨_, rfl⟩
  obtain ⟨hr, hb⟩ := ST.out _ hw1
  rw [← hw1]
  clear hw1 ST
  have HRL := Lib.hid hr.lt
  obtain ⟨w3, S3, hy, G3, Z3⟩ := k_keep w1 0
  replace hr := hr.old G3
  replace hb := hb.trans (G3.mono hb.size)
  clear G3 Z3
  go_upto_region 2 with (refine wpl_store S3 rfl rfl rfl rfl rfl ?_)
  clear S3
  generalize w1.heap.size = Y at hy ⊢
  have hy' : At w3 Y 39 (slV Sp.zero) := hy
  have E0' : w.heap.size ≤ R := by have := E0.out; omega
  have LY := sl_loads hy' zeros_dig.len
  have S := sl_stores hr zeros_dig.len (y := Sp.zero) zeros_dig.len
  have R1 := hr.row (slV Sp.zero)
  have F1 := below_row (B := R) (cs := slV Sp.zero) hb E0'
  clear hy
  generalize w3.setRow R (slV Sp.zero) = w7 at S R1 F1
  go_wp2_with (first | refine wpl_load LY rfl rfl rfl ?_ | refine wpl_store S rfl rfl rfl rfl rfl ?_)
  exact bodyPost_ret (results_cellTmp Tryz.results92 _ rfl rfl (sl_loads R1 zeros_dig.len)) rfl ⟨.inr ⟨NC.out, rfl⟩, F1⟩
set_option maxRecDepth 100000 in
set_option maxHeartbeats 4000000 in
theorem rparse_bind (s : ByteArray) (w : World) (hs : 1 ≤ s.size) (hz : s.size ≤ 1000000) (hk : psK s = 1) :
    Calls Tryz.prog 92 #[.string s] w fun e w' => ParsePost s w e w' := by
  have h0 := ps1_le s hs; have h2 := ps2_le s hs; have h3 := ps3_le s hs; have h4 := psA_le s hs
  have hb0 : bt s 0 = 1 := by rw [← bn_bt]; exact hk
  have gb : ∀ (h : 0 < s.size), ((s[0]'h).toNat : Int) = 1 := fun h => (get_bt s 0 h).trans hb0
  have l0 : ((s.size : Int) == 0) = false := by rw [beq_eq_false_iff_ne]; omega
  have l1 : (0 : Int) < (s.size : Int) := by omega
  obtain ⟨X, hX⟩ : ∃ X, X = psX s := ⟨_, rfl⟩
  have HX := Lib.hid hX
  have HK := Lib.hid hk
  clear hX hk hb0
  obtain ⟨R, e0, st⟩ := ans_start w
  have E0 := Lib.hid e0; have ST := Lib.hid st
  clear e0 st
  go_enter Tryz.func92, Tryz.ntmps92
  go_upto_region 1 with (fail)
  rw [← E0.out]
  obtain ⟨w1, hw1⟩ : ∃ w1, w1 = w.alloc (.cells #[.int .i64 0, .string ⟨#[]⟩, .string ⟨#[]⟩, .int .u8 0, .int .u8 0, .int .u8 0, .int .u8 0, .int .u8 0, .int .u8 0, .int .u8 0, .int .u8 0, .int .u8 0, .int .u8 0, .int .u8 0, .int .u8 0, .int .u8 0, .int .u8 0, .int .u8 0, .int .u8 0, .int .u8 0, .int .u8 0, .int .u8 0, .int .u8 0, .int .u8 0, .int .u8 0, .int .u8 0, .int .u8 0, .int .u8 0, .int .u8 0, .int .u8 0, .int .u8 0, .int .u8 0, .int .u8 0, .int .u8 0, .int .u8 0, .string ⟨#[]⟩, .int .i64 0, .int .i64 0] 39) := ⟨_, rfl⟩
  obtain ⟨hr, hb⟩ := ST.out _ hw1
  rw [← hw1]
  clear hw1 ST
  have HRL := Lib.hid hr.lt
  obtain ⟨w3, S3, hy, G3, Z3⟩ := k_keep w1 0
  replace hr := hr.old G3
  replace hb := hb.trans (G3.mono hb.size)
  have hRY : R ≠ w1.heap.size := by have := HRL.out; omega
  have hYn : w.heap.size ≤ w1.heap.size := by have := HRL.out; have := E0.out; omega
  clear G3 Z3
  go_upto_region 2 with (refine wpl_store S3 rfl rfl rfl rfl rfl ?_)
  clear S3
  generalize w1.heap.size = Y at hy hRY hYn ⊢
  have c0 : w3.cell? ⟨Y, 0, none⟩ = some (.int .i64 0) := hy.cell 0
  have f0 := hy.frozen 0
  go_upto_region 5 with (fail)
  replace hr := hr.other (a := ⟨Y, 0, none⟩) hRY (.int .i64 1)
  replace hb := below_cell hb hYn 0 (.int .i64 1)
  replace hy := hy.set 0 (.int .i64 1)
  clear c0 f0
  rw [set0] at hy
  generalize w3.setCell ⟨Y, 0, none⟩ (.int .i64 1) = w4 at hr hb hy ⊢
  have c0 : w4.cell? ⟨Y, 0, none⟩ = some (.int .i64 1) := hy.cell 0
  go_wp2_with fail
  refine (rhas_any 1 _ (by decide)).mono ?_
  rintro e w4' ⟨rfl, G⟩
  replace hr := hr.old G
  replace hy := hy.old G
  replace hb := hb.trans (G.mono hb.size)
  clear G c0
  obtain ⟨w5, S5, hl, G5, Z5⟩ := keep (P := Tryz.prog) (ty := 129) w4' #[.bool false, .bool false, .bool false, .bool false] (layV 1) 129 (by kernel_rfl) rfl (lay_one 1)
  have O : PS w w5 R Y w4'.heap.size 1 ⟨1, none8, none8, zeros, none8, 0, 0⟩ := ⟨hr.old G5, hy.old G5, hl, hb.trans (G5.mono hb.size), hRY, by have := hy.lt; omega, hYn, by have := E0.out; omega⟩
  clear Z5 G5 hl hr hy hb hRY hYn
  go_upto_region 6 with (refine wpl_store S5 rfl rfl rfl rfl rfl ?_)
  clear S5
  generalize w4'.heap.size = L at O ⊢
  have ydl := zeros_dig.len
  have LT : Hid (hT 1 = true) := Lib.hid rfl
  have LD : Hid (hD 1 = true) := Lib.hid rfl
  have LM : Hid (hM 1 = true) := Lib.hid rfl
  have LA : Hid (hA 1 = true) := Lib.hid rfl
  have y0 : w5.cell? ⟨L, 0, none⟩ = some (.bool true) := O.ly.cell 0
  obtain ⟨t1, hq⟩ : ∃ t, (tkF s 1).1 = t := ⟨_, rfl⟩
  obtain ⟨a1, ha⟩ : ∃ a, (tkF s 1).2 = a := ⟨_, rfl⟩
  have b1 := tkF_le s 1
  rw [ha] at b1
  go_wp2_with fail
  refine (took_any s 1 _ hz (by omega) (by omega)).mono ?_
  rintro e w6 ⟨rfl, G⟩
  rw [hq, ha]
  replace O := O.below G
  have HQ1 := Lib.hid hq; have HA1 := Lib.hid ha
  clear G hq ha
  clear y0
  obtain ⟨t2, hq⟩ : ∃ t, (tkF s a1).1 = t := ⟨_, rfl⟩
  obtain ⟨a2, ha⟩ : ∃ a, (tkF s a1).2 = a := ⟨_, rfl⟩
  have b2 := tkF_le s a1
  rw [ha] at b2
  go_wp2_with fail
  refine (took_any s a1 _ hz (by omega) (by omega)).mono ?_
  rintro e w7 ⟨rfl, G⟩
  rw [hq, ha]
  replace O := O.below G
  have HQ2 := Lib.hid hq; have HA2 := Lib.hid ha
  clear G hq ha
  have f1 := O.sy.frozen 1
  have d1 : w7.cell? ⟨Y, 1, none⟩ = some (.string none8) := O.sy.cell 1
  go_upto_region 11 with (fail)
  have O2 := O.set 1 (.string t1) (set1 ⟨1, none8, none8, zeros, none8, 0, 0⟩ _)
  clear O f1 d1
  generalize w7.setCell ⟨Y, 1, none⟩ (.string t1) = w8 at O2 ⊢
  have O : PS w w8 R Y L 1 ⟨1, t1, none8, zeros, none8, 0, 0⟩ := O2
  clear O2
  have f1 := O.sy.frozen 2
  have d1 : w8.cell? ⟨Y, 2, none⟩ = some (.string none8) := O.sy.cell 2
  go_upto_region 12 with (fail)
  have O2 := O.set 2 (.string t2) (set2 ⟨1, t1, none8, zeros, none8, 0, 0⟩ _)
  clear O f1 d1
  generalize w8.setCell ⟨Y, 2, none⟩ (.string t2) = w9 at O2 ⊢
  have O : PS w w9 R Y L 1 ⟨1, t1, t2, zeros, none8, 0, 0⟩ := O2
  clear O2
  by_cases cD : (0 : Int) ≤ a2 ∧ 32 ≤ (s.size : Int) - a2
  · obtain ⟨m, rfl⟩ : ∃ m : Nat, a2 = (m : Int) := ⟨a2.toNat, by omega⟩
    have hm32 : m + 32 ≤ s.size := by omega
    have p1 : (0 : Int) ≤ (m : Int) := by omega
    have p2 : (32 : Int) ≤ (s.size : Int) - (m : Int) := by omega
    clear cD
    have y1 : w9.cell? ⟨L, 1, none⟩ = some (.bool true) := O.ly.cell 1
    go_upto_region 14 with (fail)
    clear y1
    go_wp2
    go_loopw [11] (fun i wr => ∃ j : Nat, j ≤ 32 ∧ i = .int .i64 j ∧ PS w wr R Y L 1 ⟨1, t1, t2, dgI s m j, none8, 0, 0⟩) (fun i _ => 32 - (intOf i).toNat)
    case atStart => exact ⟨0, Nat.zero_le _, rfl, by rw [dgI_zero]; exact O⟩
    case round =>
      clear O
      obtain ⟨j, hj, rfl, O⟩ := hrel
      by_cases hlt : j < 32
      · have yl := dgI_len hm32 hj
        have old : wr.cell? ⟨Y, 3 + j, none⟩ = some (.int .u8 0) := (O.sy.cell (3 + j)).trans (slD (x := ⟨1, t1, t2, dgI s m j, none8, 0, 0⟩) yl (b := 0) (dgI_get hm32 hlt))
        have fr := O.sy.frozen (3 + j)
        have l1' : (j : Int) < 32 := by omega
        have i0 : (0 : Int) ≤ (j : Int) := by omega
        have i1 : (0 : Int) ≤ (m : Int) + (j : Int) := by omega
        have i2 : (m : Int) + (j : Int) < (s.size : Int) := by omega
        have tn1 : ((m : Int) + (j : Int)).toNat = m + j := by omega
        have gb2 : ∀ h : m + j < s.size, ((s[m + j]'h).toNat : Int) = (bn s (m + j) : Int) := fun h => (get_bt s _ h).trans (bn_bt s _).symm
        have O2 := (O.set (3 + j) (.int .u8 (bn s (m + j) : Int)) (setD (x := ⟨1, t1, t2, dgI s m j, none8, 0, 0⟩) yl hlt _))
        have O3 : PS w (wr.setCell ⟨Y, 3 + j, none⟩ (.int .u8 (bn s (m + j) : Int))) R Y L 1 ⟨1, t1, t2, dgI s m (j + 1), none8, 0, 0⟩ := by rw [← dgI_step hm32 hlt]; exact O2
        clear O O2
        go_upto_region 16 with (fail)
        generalize wr.setCell ⟨Y, 3 + j, none⟩ (.int .u8 (bn s (m + j) : Int)) = wx at O3 ⊢
        clear old fr
        go_wp2
        go_roundw
        case rel => exact ⟨j + 1, by omega, by go_num, O3⟩
        case measure => simp [intOf]; omega
      · have l1' : ¬ (j : Int) < 32 := by omega
        obtain rfl : j = 32 := by omega
        rw [show dgI s m 32 = (dgF s (m : Int)).1 from dgI_end hm32] at O
        obtain ⟨d, hd⟩ : ∃ d, (dgF s (m : Int)).1 = d := ⟨_, rfl⟩
        have ha : (dgF s (m : Int)).2 = ((m : Int) + 32) := by rw [dgF_yes hm32]; rfl
        clear ydl
        have ydl := (dgF_dig s (m : Int)).len
        rw [hd] at ydl O
        have HD := Lib.hid hd; have HE := Lib.hid ha
        clear hd ha
        obtain ⟨w10, hw⟩ : ∃ z, z = wr := ⟨_, rfl⟩
        rw [← hw] at O ⊢
        clear hw
        have y2 : w10.cell? ⟨L, 2, none⟩ = some (.bool true) := O.ly.cell 2
        obtain ⟨t3, hq⟩ : ∃ t, (tkF s ((m : Int) + 32)).1 = t := ⟨_, rfl⟩
        obtain ⟨a3, ha⟩ : ∃ a, (tkF s ((m : Int) + 32)).2 = a := ⟨_, rfl⟩
        have b3 := tkF_le s ((m : Int) + 32)
        rw [ha] at b3
        go_wp2_with fail
        refine (took_any s ((m : Int) + 32) _ hz (by omega) (by omega)).mono ?_
        rintro e w11 ⟨rfl, G⟩
        rw [hq, ha]
        replace O := O.below G
        have HQ3 := Lib.hid hq; have HA3 := Lib.hid ha
        clear G hq ha
        clear y2
        obtain ⟨v4, hq⟩ : ∃ t, (ctF s a3).1 = t := ⟨_, rfl⟩
        obtain ⟨a4, ha⟩ : ∃ a, (ctF s a3).2 = a := ⟨_, rfl⟩
        have b4 := ctF_le s a3
        rw [ha] at b4
        go_wp2_with fail
        refine (counted_any s a3 _ hz (by omega) (by omega)).mono ?_
        rintro e w12 ⟨rfl, G⟩
        rw [hq, ha]
        replace O := O.below G
        have HQ4 := Lib.hid hq; have HA4 := Lib.hid ha
        clear G hq ha
        have f1 := O.sy.frozen 35
        have d1 : w12.cell? ⟨Y, 35, none⟩ = some (.string none8) := (O.sy.cell 35).trans (sl35 ydl)
        go_upto_region 25 with (fail)
        have O2 := O.set 35 (.string t3) (set35 (x := ⟨1, t1, t2, d, none8, 0, 0⟩) ydl _)
        clear O f1 d1
        generalize w12.setCell ⟨Y, 35, none⟩ (.string t3) = w13 at O2 ⊢
        have O : PS w w13 R Y L 1 ⟨1, t1, t2, d, t3, 0, 0⟩ := O2
        clear O2
        have f1 := O.sy.frozen 36
        have d1 : w13.cell? ⟨Y, 36, none⟩ = some (.int .i64 0) := (O.sy.cell 36).trans (sl36 ydl)
        go_upto_region 26 with (fail)
        have O2 := O.set 36 (.int .i64 v4) (set36 (x := ⟨1, t1, t2, d, t3, 0, 0⟩) ydl _)
        clear O f1 d1
        generalize w13.setCell ⟨Y, 36, none⟩ (.int .i64 v4) = w14 at O2 ⊢
        have O : PS w w14 R Y L 1 ⟨1, t1, t2, d, t3, v4, 0⟩ := O2
        clear O2
        have y3 : w14.cell? ⟨L, 3, none⟩ = some (.bool true) := O.ly.cell 3
        obtain ⟨v5, hq⟩ : ∃ t, (ctF s a4).1 = t := ⟨_, rfl⟩
        obtain ⟨a5, ha⟩ : ∃ a, (ctF s a4).2 = a := ⟨_, rfl⟩
        have b5 := ctF_le s a4
        rw [ha] at b5
        go_wp2_with fail
        refine (counted_any s a4 _ hz (by omega) (by omega)).mono ?_
        rintro e w15 ⟨rfl, G⟩
        rw [hq, ha]
        replace O := O.below G
        have HQ5 := Lib.hid hq; have HA5 := Lib.hid ha
        clear G hq ha
        clear y3
        have f1 := O.sy.frozen 37
        have d1 : w15.cell? ⟨Y, 37, none⟩ = some (.int .i64 0) := (O.sy.cell 37).trans (sl37 ydl)
        go_upto_region 30 with (fail)
        have O2 := O.set 37 (.int .i64 v5) (set37 (x := ⟨1, t1, t2, d, t3, v4, 0⟩) ydl _)
        clear O f1 d1
        generalize w15.setCell ⟨Y, 37, none⟩ (.int .i64 v5) = w16 at O2 ⊢
        have O : PS w w16 R Y L 1 ⟨1, t1, t2, d, t3, v4, v5⟩ := O2
        clear O2
        have FF : psX s = ⟨1, t1, t2, d, t3, v4, v5⟩ ∧ psA s = a5 := by
          unfold psX psA ps3 ps2 ps1
          rw [HK.out]
          simp only [uT, uD, uM, uA, LT.out, LD.out, LM.out, LA.out, if_true, Bool.false_eq_true, if_false]
          simp only [HQ1.out, HA1.out, HQ2.out, HA2.out, HD.out, HE.out, HQ3.out, HA3.out, HQ4.out, HA4.out, HQ5.out, HA5.out]
          first | exact ⟨rfl, rfl⟩ | exact ⟨rfl, trivial⟩ | exact ⟨trivial, rfl⟩ | trivial
        have O2 : PS w w16 R Y L 1 X := by rw [HX.out, FF.1]; exact O
        have FA := Lib.hid FF.2
        clear O FF ydl
        have O := O2
        clear O2
        have ok : Okay X := by rw [HX.out]; exact ps_okay s (by omega)
        have E0' : w.heap.size ≤ R := O.ne.2.2.2
        by_cases ca : a5 = (s.size : Int)
        · have nq : (a5 != (s.size : Int)) = false := by simp [ca]
          have CA := Lib.hid ca
          clear ca
          have LY := sl_loads O.sy ok.dig.len
          go_wp2_with (with_reducible refine wpl_load_in LY ?_ rfl ?_ ?_; (· kernel_rfl); (· kernel_rfl))
          refine (rgood_any X _ ok).mono ?_
          rintro e wg ⟨rfl, G⟩
          replace O := O.below G
          clear G LY 
          by_cases hc : Can X
          · rw [canB_yes hc]
            have LY := sl_loads O.sy ok.dig.len
            have S := sl_stores O.rs zeros_dig.len ok.dig.len
            have R1 := O.rs.row (slV X)
            have F1 := below_row (B := R) (cs := slV X) O.bel E0'
            generalize wg.setRow R (slV X) = w7 at S R1 F1
            go_wp2_with (first | refine wpl_load LY rfl rfl rfl ?_ | refine wpl_store S rfl rfl rfl rfl rfl ?_)
            exact bodyPost_ret (results_cellTmp Tryz.results92 _ rfl rfl (sl_loads R1 ok.dig.len)) rfl ⟨.inl ⟨FA.out.trans CA.out, by rw [← HX.out]; exact hc, by rw [← HX.out]; rfl⟩, F1⟩
          · rw [canB_no hc]
            have S := zero_stores O.rs
            have R1 := O.rs.row (slV Sp.zero)
            have F1 := below_row (B := R) (cs := slV Sp.zero) O.bel E0'
            generalize wg.setRow R (slV Sp.zero) = w7 at S R1 F1
            go_wp2_with (refine wpl_store S rfl rfl rfl rfl rfl ?_)
            exact bodyPost_ret (results_cellTmp Tryz.results92 _ rfl rfl (sl_loads R1 zeros_dig.len)) rfl ⟨.inr ⟨fun c => hc (by rw [HX.out]; exact c.2), rfl⟩, F1⟩
        · have nq : (a5 != (s.size : Int)) = true := by simp [ca]
          have S := zero_stores O.rs
          have R1 := O.rs.row (slV Sp.zero)
          have F1 := below_row (B := R) (cs := slV Sp.zero) O.bel E0'
          generalize w16.setRow R (slV Sp.zero) = w7 at S R1 F1
          go_wp2_with (refine wpl_store S rfl rfl rfl rfl rfl ?_)
          exact bodyPost_ret (results_cellTmp Tryz.results92 _ rfl rfl (sl_loads R1 zeros_dig.len)) rfl ⟨.inr ⟨fun c => ca (FA.out.symm.trans c.1), rfl⟩, F1⟩
  · have hd : (dgF s a2).1 = zeros := by rw [dgF_no cD]
    have ha : (dgF s a2).2 = -1 := by rw [dgF_no cD]
    have HD := Lib.hid hd; have HE := Lib.hid ha
    clear hd ha
    by_cases c0 : 0 ≤ a2
    · have c1 : ¬ (32 : Int) ≤ (s.size : Int) - a2 := by omega
      have y1 : w9.cell? ⟨L, 1, none⟩ = some (.bool true) := O.ly.cell 1
      have y2 : w9.cell? ⟨L, 2, none⟩ = some (.bool true) := O.ly.cell 2
      obtain ⟨t3, hq⟩ : ∃ t, (tkF s (-1)).1 = t := ⟨_, rfl⟩
      obtain ⟨a3, ha⟩ : ∃ a, (tkF s (-1)).2 = a := ⟨_, rfl⟩
      have b3 := tkF_le s (-1)
      rw [ha] at b3
      go_wp2_with fail
      refine (took_any s (-1) _ hz (by omega) (by omega)).mono ?_
      rintro e w10 ⟨rfl, G⟩
      rw [hq, ha]
      replace O := O.below G
      have HQ3 := Lib.hid hq; have HA3 := Lib.hid ha
      clear G hq ha
      clear y1 y2
      obtain ⟨v4, hq⟩ : ∃ t, (ctF s a3).1 = t := ⟨_, rfl⟩
      obtain ⟨a4, ha⟩ : ∃ a, (ctF s a3).2 = a := ⟨_, rfl⟩
      have b4 := ctF_le s a3
      rw [ha] at b4
      go_wp2_with fail
      refine (counted_any s a3 _ hz (by omega) (by omega)).mono ?_
      rintro e w11 ⟨rfl, G⟩
      rw [hq, ha]
      replace O := O.below G
      have HQ4 := Lib.hid hq; have HA4 := Lib.hid ha
      clear G hq ha
      have f1 := O.sy.frozen 35
      have d1 : w11.cell? ⟨Y, 35, none⟩ = some (.string none8) := (O.sy.cell 35).trans (sl35 ydl)
      go_upto_region 25 with (fail)
      have O2 := O.set 35 (.string t3) (set35 (x := ⟨1, t1, t2, zeros, none8, 0, 0⟩) ydl _)
      clear O f1 d1
      generalize w11.setCell ⟨Y, 35, none⟩ (.string t3) = w12 at O2 ⊢
      have O : PS w w12 R Y L 1 ⟨1, t1, t2, zeros, t3, 0, 0⟩ := O2
      clear O2
      have f1 := O.sy.frozen 36
      have d1 : w12.cell? ⟨Y, 36, none⟩ = some (.int .i64 0) := (O.sy.cell 36).trans (sl36 ydl)
      go_upto_region 26 with (fail)
      have O2 := O.set 36 (.int .i64 v4) (set36 (x := ⟨1, t1, t2, zeros, t3, 0, 0⟩) ydl _)
      clear O f1 d1
      generalize w12.setCell ⟨Y, 36, none⟩ (.int .i64 v4) = w13 at O2 ⊢
      have O : PS w w13 R Y L 1 ⟨1, t1, t2, zeros, t3, v4, 0⟩ := O2
      clear O2
      have y3 : w13.cell? ⟨L, 3, none⟩ = some (.bool true) := O.ly.cell 3
      obtain ⟨v5, hq⟩ : ∃ t, (ctF s a4).1 = t := ⟨_, rfl⟩
      obtain ⟨a5, ha⟩ : ∃ a, (ctF s a4).2 = a := ⟨_, rfl⟩
      have b5 := ctF_le s a4
      rw [ha] at b5
      go_wp2_with fail
      refine (counted_any s a4 _ hz (by omega) (by omega)).mono ?_
      rintro e w14 ⟨rfl, G⟩
      rw [hq, ha]
      replace O := O.below G
      have HQ5 := Lib.hid hq; have HA5 := Lib.hid ha
      clear G hq ha
      clear y3
      have f1 := O.sy.frozen 37
      have d1 : w14.cell? ⟨Y, 37, none⟩ = some (.int .i64 0) := (O.sy.cell 37).trans (sl37 ydl)
      go_upto_region 30 with (fail)
      have O2 := O.set 37 (.int .i64 v5) (set37 (x := ⟨1, t1, t2, zeros, t3, v4, 0⟩) ydl _)
      clear O f1 d1
      generalize w14.setCell ⟨Y, 37, none⟩ (.int .i64 v5) = w15 at O2 ⊢
      have O : PS w w15 R Y L 1 ⟨1, t1, t2, zeros, t3, v4, v5⟩ := O2
      clear O2
      have FF : psX s = ⟨1, t1, t2, zeros, t3, v4, v5⟩ ∧ psA s = a5 := by
        unfold psX psA ps3 ps2 ps1
        rw [HK.out]
        simp only [uT, uD, uM, uA, LT.out, LD.out, LM.out, LA.out, if_true, Bool.false_eq_true, if_false]
        simp only [HQ1.out, HA1.out, HQ2.out, HA2.out, HD.out, HE.out, HQ3.out, HA3.out, HQ4.out, HA4.out, HQ5.out, HA5.out]
        first | exact ⟨rfl, rfl⟩ | exact ⟨rfl, trivial⟩ | exact ⟨trivial, rfl⟩ | trivial
      have O2 : PS w w15 R Y L 1 X := by rw [HX.out, FF.1]; exact O
      have FA := Lib.hid FF.2
      clear O FF ydl
      have O := O2
      clear O2
      have ok : Okay X := by rw [HX.out]; exact ps_okay s (by omega)
      have E0' : w.heap.size ≤ R := O.ne.2.2.2
      by_cases ca : a5 = (s.size : Int)
      · have nq : (a5 != (s.size : Int)) = false := by simp [ca]
        have CA := Lib.hid ca
        clear ca
        have LY := sl_loads O.sy ok.dig.len
        go_wp2_with (with_reducible refine wpl_load_in LY ?_ rfl ?_ ?_; (· kernel_rfl); (· kernel_rfl))
        refine (rgood_any X _ ok).mono ?_
        rintro e wg ⟨rfl, G⟩
        replace O := O.below G
        clear G LY 
        by_cases hc : Can X
        · rw [canB_yes hc]
          have LY := sl_loads O.sy ok.dig.len
          have S := sl_stores O.rs zeros_dig.len ok.dig.len
          have R1 := O.rs.row (slV X)
          have F1 := below_row (B := R) (cs := slV X) O.bel E0'
          generalize wg.setRow R (slV X) = w7 at S R1 F1
          go_wp2_with (first | refine wpl_load LY rfl rfl rfl ?_ | refine wpl_store S rfl rfl rfl rfl rfl ?_)
          exact bodyPost_ret (results_cellTmp Tryz.results92 _ rfl rfl (sl_loads R1 ok.dig.len)) rfl ⟨.inl ⟨FA.out.trans CA.out, by rw [← HX.out]; exact hc, by rw [← HX.out]; rfl⟩, F1⟩
        · rw [canB_no hc]
          have S := zero_stores O.rs
          have R1 := O.rs.row (slV Sp.zero)
          have F1 := below_row (B := R) (cs := slV Sp.zero) O.bel E0'
          generalize wg.setRow R (slV Sp.zero) = w7 at S R1 F1
          go_wp2_with (refine wpl_store S rfl rfl rfl rfl rfl ?_)
          exact bodyPost_ret (results_cellTmp Tryz.results92 _ rfl rfl (sl_loads R1 zeros_dig.len)) rfl ⟨.inr ⟨fun c => hc (by rw [HX.out]; exact c.2), rfl⟩, F1⟩
      · have nq : (a5 != (s.size : Int)) = true := by simp [ca]
        have S := zero_stores O.rs
        have R1 := O.rs.row (slV Sp.zero)
        have F1 := below_row (B := R) (cs := slV Sp.zero) O.bel E0'
        generalize w15.setRow R (slV Sp.zero) = w7 at S R1 F1
        go_wp2_with (refine wpl_store S rfl rfl rfl rfl rfl ?_)
        exact bodyPost_ret (results_cellTmp Tryz.results92 _ rfl rfl (sl_loads R1 zeros_dig.len)) rfl ⟨.inr ⟨fun c => ca (FA.out.symm.trans c.1), rfl⟩, F1⟩
    · skip
      have y1 : w9.cell? ⟨L, 1, none⟩ = some (.bool true) := O.ly.cell 1
      have y2 : w9.cell? ⟨L, 2, none⟩ = some (.bool true) := O.ly.cell 2
      obtain ⟨t3, hq⟩ : ∃ t, (tkF s (-1)).1 = t := ⟨_, rfl⟩
      obtain ⟨a3, ha⟩ : ∃ a, (tkF s (-1)).2 = a := ⟨_, rfl⟩
      have b3 := tkF_le s (-1)
      rw [ha] at b3
      go_wp2_with fail
      refine (took_any s (-1) _ hz (by omega) (by omega)).mono ?_
      rintro e w10 ⟨rfl, G⟩
      rw [hq, ha]
      replace O := O.below G
      have HQ3 := Lib.hid hq; have HA3 := Lib.hid ha
      clear G hq ha
      clear y1 y2
      obtain ⟨v4, hq⟩ : ∃ t, (ctF s a3).1 = t := ⟨_, rfl⟩
      obtain ⟨a4, ha⟩ : ∃ a, (ctF s a3).2 = a := ⟨_, rfl⟩
      have b4 := ctF_le s a3
      rw [ha] at b4
      go_wp2_with fail
      refine (counted_any s a3 _ hz (by omega) (by omega)).mono ?_
      rintro e w11 ⟨rfl, G⟩
      rw [hq, ha]
      replace O := O.below G
      have HQ4 := Lib.hid hq; have HA4 := Lib.hid ha
      clear G hq ha
      have f1 := O.sy.frozen 35
      have d1 : w11.cell? ⟨Y, 35, none⟩ = some (.string none8) := (O.sy.cell 35).trans (sl35 ydl)
      go_upto_region 25 with (fail)
      have O2 := O.set 35 (.string t3) (set35 (x := ⟨1, t1, t2, zeros, none8, 0, 0⟩) ydl _)
      clear O f1 d1
      generalize w11.setCell ⟨Y, 35, none⟩ (.string t3) = w12 at O2 ⊢
      have O : PS w w12 R Y L 1 ⟨1, t1, t2, zeros, t3, 0, 0⟩ := O2
      clear O2
      have f1 := O.sy.frozen 36
      have d1 : w12.cell? ⟨Y, 36, none⟩ = some (.int .i64 0) := (O.sy.cell 36).trans (sl36 ydl)
      go_upto_region 26 with (fail)
      have O2 := O.set 36 (.int .i64 v4) (set36 (x := ⟨1, t1, t2, zeros, t3, 0, 0⟩) ydl _)
      clear O f1 d1
      generalize w12.setCell ⟨Y, 36, none⟩ (.int .i64 v4) = w13 at O2 ⊢
      have O : PS w w13 R Y L 1 ⟨1, t1, t2, zeros, t3, v4, 0⟩ := O2
      clear O2
      have y3 : w13.cell? ⟨L, 3, none⟩ = some (.bool true) := O.ly.cell 3
      obtain ⟨v5, hq⟩ : ∃ t, (ctF s a4).1 = t := ⟨_, rfl⟩
      obtain ⟨a5, ha⟩ : ∃ a, (ctF s a4).2 = a := ⟨_, rfl⟩
      have b5 := ctF_le s a4
      rw [ha] at b5
      go_wp2_with fail
      refine (counted_any s a4 _ hz (by omega) (by omega)).mono ?_
      rintro e w14 ⟨rfl, G⟩
      rw [hq, ha]
      replace O := O.below G
      have HQ5 := Lib.hid hq; have HA5 := Lib.hid ha
      clear G hq ha
      clear y3
      have f1 := O.sy.frozen 37
      have d1 : w14.cell? ⟨Y, 37, none⟩ = some (.int .i64 0) := (O.sy.cell 37).trans (sl37 ydl)
      go_upto_region 30 with (fail)
      have O2 := O.set 37 (.int .i64 v5) (set37 (x := ⟨1, t1, t2, zeros, t3, v4, 0⟩) ydl _)
      clear O f1 d1
      generalize w14.setCell ⟨Y, 37, none⟩ (.int .i64 v5) = w15 at O2 ⊢
      have O : PS w w15 R Y L 1 ⟨1, t1, t2, zeros, t3, v4, v5⟩ := O2
      clear O2
      have FF : psX s = ⟨1, t1, t2, zeros, t3, v4, v5⟩ ∧ psA s = a5 := by
        unfold psX psA ps3 ps2 ps1
        rw [HK.out]
        simp only [uT, uD, uM, uA, LT.out, LD.out, LM.out, LA.out, if_true, Bool.false_eq_true, if_false]
        simp only [HQ1.out, HA1.out, HQ2.out, HA2.out, HD.out, HE.out, HQ3.out, HA3.out, HQ4.out, HA4.out, HQ5.out, HA5.out]
        first | exact ⟨rfl, rfl⟩ | exact ⟨rfl, trivial⟩ | exact ⟨trivial, rfl⟩ | trivial
      have O2 : PS w w15 R Y L 1 X := by rw [HX.out, FF.1]; exact O
      have FA := Lib.hid FF.2
      clear O FF ydl
      have O := O2
      clear O2
      have ok : Okay X := by rw [HX.out]; exact ps_okay s (by omega)
      have E0' : w.heap.size ≤ R := O.ne.2.2.2
      by_cases ca : a5 = (s.size : Int)
      · have nq : (a5 != (s.size : Int)) = false := by simp [ca]
        have CA := Lib.hid ca
        clear ca
        have LY := sl_loads O.sy ok.dig.len
        go_wp2_with (with_reducible refine wpl_load_in LY ?_ rfl ?_ ?_; (· kernel_rfl); (· kernel_rfl))
        refine (rgood_any X _ ok).mono ?_
        rintro e wg ⟨rfl, G⟩
        replace O := O.below G
        clear G LY 
        by_cases hc : Can X
        · rw [canB_yes hc]
          have LY := sl_loads O.sy ok.dig.len
          have S := sl_stores O.rs zeros_dig.len ok.dig.len
          have R1 := O.rs.row (slV X)
          have F1 := below_row (B := R) (cs := slV X) O.bel E0'
          generalize wg.setRow R (slV X) = w7 at S R1 F1
          go_wp2_with (first | refine wpl_load LY rfl rfl rfl ?_ | refine wpl_store S rfl rfl rfl rfl rfl ?_)
          exact bodyPost_ret (results_cellTmp Tryz.results92 _ rfl rfl (sl_loads R1 ok.dig.len)) rfl ⟨.inl ⟨FA.out.trans CA.out, by rw [← HX.out]; exact hc, by rw [← HX.out]; rfl⟩, F1⟩
        · rw [canB_no hc]
          have S := zero_stores O.rs
          have R1 := O.rs.row (slV Sp.zero)
          have F1 := below_row (B := R) (cs := slV Sp.zero) O.bel E0'
          generalize wg.setRow R (slV Sp.zero) = w7 at S R1 F1
          go_wp2_with (refine wpl_store S rfl rfl rfl rfl rfl ?_)
          exact bodyPost_ret (results_cellTmp Tryz.results92 _ rfl rfl (sl_loads R1 zeros_dig.len)) rfl ⟨.inr ⟨fun c => hc (by rw [HX.out]; exact c.2), rfl⟩, F1⟩
      · have nq : (a5 != (s.size : Int)) = true := by simp [ca]
        have S := zero_stores O.rs
        have R1 := O.rs.row (slV Sp.zero)
        have F1 := below_row (B := R) (cs := slV Sp.zero) O.bel E0'
        generalize w15.setRow R (slV Sp.zero) = w7 at S R1 F1
        go_wp2_with (refine wpl_store S rfl rfl rfl rfl rfl ?_)
        exact bodyPost_ret (results_cellTmp Tryz.results92 _ rfl rfl (sl_loads R1 zeros_dig.len)) rfl ⟨.inr ⟨fun c => ca (FA.out.symm.trans c.1), rfl⟩, F1⟩
set_option maxRecDepth 100000 in
set_option maxHeartbeats 4000000 in
theorem rparse_miss (s : ByteArray) (w : World) (hs : 1 ≤ s.size) (hz : s.size ≤ 1000000) (hk : psK s = 2) :
    Calls Tryz.prog 92 #[.string s] w fun e w' => ParsePost s w e w' := by
  have h0 := ps1_le s hs; have h2 := ps2_le s hs; have h3 := ps3_le s hs; have h4 := psA_le s hs
  have hb0 : bt s 0 = 2 := by rw [← bn_bt]; exact hk
  have gb : ∀ (h : 0 < s.size), ((s[0]'h).toNat : Int) = 2 := fun h => (get_bt s 0 h).trans hb0
  have l0 : ((s.size : Int) == 0) = false := by rw [beq_eq_false_iff_ne]; omega
  have l1 : (0 : Int) < (s.size : Int) := by omega
  obtain ⟨X, hX⟩ : ∃ X, X = psX s := ⟨_, rfl⟩
  have HX := Lib.hid hX
  have HK := Lib.hid hk
  clear hX hk hb0
  obtain ⟨R, e0, st⟩ := ans_start w
  have E0 := Lib.hid e0; have ST := Lib.hid st
  clear e0 st
  go_enter Tryz.func92, Tryz.ntmps92
  go_upto_region 1 with (fail)
  rw [← E0.out]
  obtain ⟨w1, hw1⟩ : ∃ w1, w1 = w.alloc (.cells #[.int .i64 0, .string ⟨#[]⟩, .string ⟨#[]⟩, .int .u8 0, .int .u8 0, .int .u8 0, .int .u8 0, .int .u8 0, .int .u8 0, .int .u8 0, .int .u8 0, .int .u8 0, .int .u8 0, .int .u8 0, .int .u8 0, .int .u8 0, .int .u8 0, .int .u8 0, .int .u8 0, .int .u8 0, .int .u8 0, .int .u8 0, .int .u8 0, .int .u8 0, .int .u8 0, .int .u8 0, .int .u8 0, .int .u8 0, .int .u8 0, .int .u8 0, .int .u8 0, .int .u8 0, .int .u8 0, .int .u8 0, .int .u8 0, .string ⟨#[]⟩, .int .i64 0, .int .i64 0] 39) := ⟨_, rfl⟩
  obtain ⟨hr, hb⟩ := ST.out _ hw1
  rw [← hw1]
  clear hw1 ST
  have HRL := Lib.hid hr.lt
  obtain ⟨w3, S3, hy, G3, Z3⟩ := k_keep w1 0
  replace hr := hr.old G3
  replace hb := hb.trans (G3.mono hb.size)
  have hRY : R ≠ w1.heap.size := by have := HRL.out; omega
  have hYn : w.heap.size ≤ w1.heap.size := by have := HRL.out; have := E0.out; omega
  clear G3 Z3
  go_upto_region 2 with (refine wpl_store S3 rfl rfl rfl rfl rfl ?_)
  clear S3
  generalize w1.heap.size = Y at hy hRY hYn ⊢
  have c0 : w3.cell? ⟨Y, 0, none⟩ = some (.int .i64 0) := hy.cell 0
  have f0 := hy.frozen 0
  go_upto_region 5 with (fail)
  replace hr := hr.other (a := ⟨Y, 0, none⟩) hRY (.int .i64 2)
  replace hb := below_cell hb hYn 0 (.int .i64 2)
  replace hy := hy.set 0 (.int .i64 2)
  clear c0 f0
  rw [set0] at hy
  generalize w3.setCell ⟨Y, 0, none⟩ (.int .i64 2) = w4 at hr hb hy ⊢
  have c0 : w4.cell? ⟨Y, 0, none⟩ = some (.int .i64 2) := hy.cell 0
  go_wp2_with fail
  refine (rhas_any 2 _ (by decide)).mono ?_
  rintro e w4' ⟨rfl, G⟩
  replace hr := hr.old G
  replace hy := hy.old G
  replace hb := hb.trans (G.mono hb.size)
  clear G c0
  obtain ⟨w5, S5, hl, G5, Z5⟩ := keep (P := Tryz.prog) (ty := 129) w4' #[.bool false, .bool false, .bool false, .bool false] (layV 2) 129 (by kernel_rfl) rfl (lay_one 2)
  have O : PS w w5 R Y w4'.heap.size 2 ⟨2, none8, none8, zeros, none8, 0, 0⟩ := ⟨hr.old G5, hy.old G5, hl, hb.trans (G5.mono hb.size), hRY, by have := hy.lt; omega, hYn, by have := E0.out; omega⟩
  clear Z5 G5 hl hr hy hb hRY hYn
  go_upto_region 6 with (refine wpl_store S5 rfl rfl rfl rfl rfl ?_)
  clear S5
  generalize w4'.heap.size = L at O ⊢
  have ydl := zeros_dig.len
  have LT : Hid (hT 2 = true) := Lib.hid rfl
  have LD : Hid (hD 2 = false) := Lib.hid rfl
  have LM : Hid (hM 2 = false) := Lib.hid rfl
  have LA : Hid (hA 2 = true) := Lib.hid rfl
  have y0 : w5.cell? ⟨L, 0, none⟩ = some (.bool true) := O.ly.cell 0
  obtain ⟨t1, hq⟩ : ∃ t, (tkF s 1).1 = t := ⟨_, rfl⟩
  obtain ⟨a1, ha⟩ : ∃ a, (tkF s 1).2 = a := ⟨_, rfl⟩
  have b1 := tkF_le s 1
  rw [ha] at b1
  go_wp2_with fail
  refine (took_any s 1 _ hz (by omega) (by omega)).mono ?_
  rintro e w6 ⟨rfl, G⟩
  rw [hq, ha]
  replace O := O.below G
  have HQ1 := Lib.hid hq; have HA1 := Lib.hid ha
  clear G hq ha
  clear y0
  obtain ⟨t2, hq⟩ : ∃ t, (tkF s a1).1 = t := ⟨_, rfl⟩
  obtain ⟨a2, ha⟩ : ∃ a, (tkF s a1).2 = a := ⟨_, rfl⟩
  have b2 := tkF_le s a1
  rw [ha] at b2
  go_wp2_with fail
  refine (took_any s a1 _ hz (by omega) (by omega)).mono ?_
  rintro e w7 ⟨rfl, G⟩
  rw [hq, ha]
  replace O := O.below G
  have HQ2 := Lib.hid hq; have HA2 := Lib.hid ha
  clear G hq ha
  have f1 := O.sy.frozen 1
  have d1 : w7.cell? ⟨Y, 1, none⟩ = some (.string none8) := O.sy.cell 1
  go_upto_region 11 with (fail)
  have O2 := O.set 1 (.string t1) (set1 ⟨2, none8, none8, zeros, none8, 0, 0⟩ _)
  clear O f1 d1
  generalize w7.setCell ⟨Y, 1, none⟩ (.string t1) = w8 at O2 ⊢
  have O : PS w w8 R Y L 2 ⟨2, t1, none8, zeros, none8, 0, 0⟩ := O2
  clear O2
  have f1 := O.sy.frozen 2
  have d1 : w8.cell? ⟨Y, 2, none⟩ = some (.string none8) := O.sy.cell 2
  go_upto_region 12 with (fail)
  have O2 := O.set 2 (.string t2) (set2 ⟨2, t1, none8, zeros, none8, 0, 0⟩ _)
  clear O f1 d1
  generalize w8.setCell ⟨Y, 2, none⟩ (.string t2) = w9 at O2 ⊢
  have O : PS w w9 R Y L 2 ⟨2, t1, t2, zeros, none8, 0, 0⟩ := O2
  clear O2
  have y1 : w9.cell? ⟨L, 1, none⟩ = some (.bool false) := O.ly.cell 1
  have y2 : w9.cell? ⟨L, 2, none⟩ = some (.bool false) := O.ly.cell 2
  have y3 : w9.cell? ⟨L, 3, none⟩ = some (.bool true) := O.ly.cell 3
  obtain ⟨v3, hq⟩ : ∃ t, (ctF s a2).1 = t := ⟨_, rfl⟩
  obtain ⟨a3, ha⟩ : ∃ a, (ctF s a2).2 = a := ⟨_, rfl⟩
  have b3 := ctF_le s a2
  rw [ha] at b3
  go_wp2_with fail
  refine (counted_any s a2 _ hz (by omega) (by omega)).mono ?_
  rintro e w10 ⟨rfl, G⟩
  rw [hq, ha]
  replace O := O.below G
  have HQ3 := Lib.hid hq; have HA3 := Lib.hid ha
  clear G hq ha
  clear y1 y2 y3
  have f1 := O.sy.frozen 37
  have d1 : w10.cell? ⟨Y, 37, none⟩ = some (.int .i64 0) := (O.sy.cell 37).trans (sl37 ydl)
  go_upto_region 30 with (fail)
  have O2 := O.set 37 (.int .i64 v3) (set37 (x := ⟨2, t1, t2, zeros, none8, 0, 0⟩) ydl _)
  clear O f1 d1
  generalize w10.setCell ⟨Y, 37, none⟩ (.int .i64 v3) = w11 at O2 ⊢
  have O : PS w w11 R Y L 2 ⟨2, t1, t2, zeros, none8, 0, v3⟩ := O2
  clear O2
  have FF : psX s = ⟨2, t1, t2, zeros, none8, 0, v3⟩ ∧ psA s = a3 := by
    unfold psX psA ps3 ps2 ps1
    rw [HK.out]
    simp only [uT, uD, uM, uA, LT.out, LD.out, LM.out, LA.out, if_true, Bool.false_eq_true, if_false]
    simp only [HQ1.out, HA1.out, HQ2.out, HA2.out, HQ3.out, HA3.out]
    first | exact ⟨rfl, rfl⟩ | exact ⟨rfl, trivial⟩ | exact ⟨trivial, rfl⟩ | trivial
  have O2 : PS w w11 R Y L 2 X := by rw [HX.out, FF.1]; exact O
  have FA := Lib.hid FF.2
  clear O FF ydl
  have O := O2
  clear O2
  have ok : Okay X := by rw [HX.out]; exact ps_okay s (by omega)
  have E0' : w.heap.size ≤ R := O.ne.2.2.2
  by_cases ca : a3 = (s.size : Int)
  · have nq : (a3 != (s.size : Int)) = false := by simp [ca]
    have CA := Lib.hid ca
    clear ca
    have LY := sl_loads O.sy ok.dig.len
    go_wp2_with (with_reducible refine wpl_load_in LY ?_ rfl ?_ ?_; (· kernel_rfl); (· kernel_rfl))
    refine (rgood_any X _ ok).mono ?_
    rintro e wg ⟨rfl, G⟩
    replace O := O.below G
    clear G LY 
    by_cases hc : Can X
    · rw [canB_yes hc]
      have LY := sl_loads O.sy ok.dig.len
      have S := sl_stores O.rs zeros_dig.len ok.dig.len
      have R1 := O.rs.row (slV X)
      have F1 := below_row (B := R) (cs := slV X) O.bel E0'
      generalize wg.setRow R (slV X) = w7 at S R1 F1
      go_wp2_with (first | refine wpl_load LY rfl rfl rfl ?_ | refine wpl_store S rfl rfl rfl rfl rfl ?_)
      exact bodyPost_ret (results_cellTmp Tryz.results92 _ rfl rfl (sl_loads R1 ok.dig.len)) rfl ⟨.inl ⟨FA.out.trans CA.out, by rw [← HX.out]; exact hc, by rw [← HX.out]; rfl⟩, F1⟩
    · rw [canB_no hc]
      have S := zero_stores O.rs
      have R1 := O.rs.row (slV Sp.zero)
      have F1 := below_row (B := R) (cs := slV Sp.zero) O.bel E0'
      generalize wg.setRow R (slV Sp.zero) = w7 at S R1 F1
      go_wp2_with (refine wpl_store S rfl rfl rfl rfl rfl ?_)
      exact bodyPost_ret (results_cellTmp Tryz.results92 _ rfl rfl (sl_loads R1 zeros_dig.len)) rfl ⟨.inr ⟨fun c => hc (by rw [HX.out]; exact c.2), rfl⟩, F1⟩
  · have nq : (a3 != (s.size : Int)) = true := by simp [ca]
    have S := zero_stores O.rs
    have R1 := O.rs.row (slV Sp.zero)
    have F1 := below_row (B := R) (cs := slV Sp.zero) O.bel E0'
    generalize w11.setRow R (slV Sp.zero) = w7 at S R1 F1
    go_wp2_with (refine wpl_store S rfl rfl rfl rfl rfl ?_)
    exact bodyPost_ret (results_cellTmp Tryz.results92 _ rfl rfl (sl_loads R1 zeros_dig.len)) rfl ⟨.inr ⟨fun c => ca (FA.out.symm.trans c.1), rfl⟩, F1⟩
set_option maxRecDepth 100000 in
set_option maxHeartbeats 4000000 in
theorem rparse_drop (s : ByteArray) (w : World) (hs : 1 ≤ s.size) (hz : s.size ≤ 1000000) (hk : psK s = 3) :
    Calls Tryz.prog 92 #[.string s] w fun e w' => ParsePost s w e w' := by
  have h0 := ps1_le s hs; have h2 := ps2_le s hs; have h3 := ps3_le s hs; have h4 := psA_le s hs
  have hb0 : bt s 0 = 3 := by rw [← bn_bt]; exact hk
  have gb : ∀ (h : 0 < s.size), ((s[0]'h).toNat : Int) = 3 := fun h => (get_bt s 0 h).trans hb0
  have l0 : ((s.size : Int) == 0) = false := by rw [beq_eq_false_iff_ne]; omega
  have l1 : (0 : Int) < (s.size : Int) := by omega
  obtain ⟨X, hX⟩ : ∃ X, X = psX s := ⟨_, rfl⟩
  have HX := Lib.hid hX
  have HK := Lib.hid hk
  clear hX hk hb0
  obtain ⟨R, e0, st⟩ := ans_start w
  have E0 := Lib.hid e0; have ST := Lib.hid st
  clear e0 st
  go_enter Tryz.func92, Tryz.ntmps92
  go_upto_region 1 with (fail)
  rw [← E0.out]
  obtain ⟨w1, hw1⟩ : ∃ w1, w1 = w.alloc (.cells #[.int .i64 0, .string ⟨#[]⟩, .string ⟨#[]⟩, .int .u8 0, .int .u8 0, .int .u8 0, .int .u8 0, .int .u8 0, .int .u8 0, .int .u8 0, .int .u8 0, .int .u8 0, .int .u8 0, .int .u8 0, .int .u8 0, .int .u8 0, .int .u8 0, .int .u8 0, .int .u8 0, .int .u8 0, .int .u8 0, .int .u8 0, .int .u8 0, .int .u8 0, .int .u8 0, .int .u8 0, .int .u8 0, .int .u8 0, .int .u8 0, .int .u8 0, .int .u8 0, .int .u8 0, .int .u8 0, .int .u8 0, .int .u8 0, .string ⟨#[]⟩, .int .i64 0, .int .i64 0] 39) := ⟨_, rfl⟩
  obtain ⟨hr, hb⟩ := ST.out _ hw1
  rw [← hw1]
  clear hw1 ST
  have HRL := Lib.hid hr.lt
  obtain ⟨w3, S3, hy, G3, Z3⟩ := k_keep w1 0
  replace hr := hr.old G3
  replace hb := hb.trans (G3.mono hb.size)
  have hRY : R ≠ w1.heap.size := by have := HRL.out; omega
  have hYn : w.heap.size ≤ w1.heap.size := by have := HRL.out; have := E0.out; omega
  clear G3 Z3
  go_upto_region 2 with (refine wpl_store S3 rfl rfl rfl rfl rfl ?_)
  clear S3
  generalize w1.heap.size = Y at hy hRY hYn ⊢
  have c0 : w3.cell? ⟨Y, 0, none⟩ = some (.int .i64 0) := hy.cell 0
  have f0 := hy.frozen 0
  go_upto_region 5 with (fail)
  replace hr := hr.other (a := ⟨Y, 0, none⟩) hRY (.int .i64 3)
  replace hb := below_cell hb hYn 0 (.int .i64 3)
  replace hy := hy.set 0 (.int .i64 3)
  clear c0 f0
  rw [set0] at hy
  generalize w3.setCell ⟨Y, 0, none⟩ (.int .i64 3) = w4 at hr hb hy ⊢
  have c0 : w4.cell? ⟨Y, 0, none⟩ = some (.int .i64 3) := hy.cell 0
  go_wp2_with fail
  refine (rhas_any 3 _ (by decide)).mono ?_
  rintro e w4' ⟨rfl, G⟩
  replace hr := hr.old G
  replace hy := hy.old G
  replace hb := hb.trans (G.mono hb.size)
  clear G c0
  obtain ⟨w5, S5, hl, G5, Z5⟩ := keep (P := Tryz.prog) (ty := 129) w4' #[.bool false, .bool false, .bool false, .bool false] (layV 3) 129 (by kernel_rfl) rfl (lay_one 3)
  have O : PS w w5 R Y w4'.heap.size 3 ⟨3, none8, none8, zeros, none8, 0, 0⟩ := ⟨hr.old G5, hy.old G5, hl, hb.trans (G5.mono hb.size), hRY, by have := hy.lt; omega, hYn, by have := E0.out; omega⟩
  clear Z5 G5 hl hr hy hb hRY hYn
  go_upto_region 6 with (refine wpl_store S5 rfl rfl rfl rfl rfl ?_)
  clear S5
  generalize w4'.heap.size = L at O ⊢
  have ydl := zeros_dig.len
  have LT : Hid (hT 3 = true) := Lib.hid rfl
  have LD : Hid (hD 3 = false) := Lib.hid rfl
  have LM : Hid (hM 3 = false) := Lib.hid rfl
  have LA : Hid (hA 3 = false) := Lib.hid rfl
  have y0 : w5.cell? ⟨L, 0, none⟩ = some (.bool true) := O.ly.cell 0
  obtain ⟨t1, hq⟩ : ∃ t, (tkF s 1).1 = t := ⟨_, rfl⟩
  obtain ⟨a1, ha⟩ : ∃ a, (tkF s 1).2 = a := ⟨_, rfl⟩
  have b1 := tkF_le s 1
  rw [ha] at b1
  go_wp2_with fail
  refine (took_any s 1 _ hz (by omega) (by omega)).mono ?_
  rintro e w6 ⟨rfl, G⟩
  rw [hq, ha]
  replace O := O.below G
  have HQ1 := Lib.hid hq; have HA1 := Lib.hid ha
  clear G hq ha
  clear y0
  obtain ⟨t2, hq⟩ : ∃ t, (tkF s a1).1 = t := ⟨_, rfl⟩
  obtain ⟨a2, ha⟩ : ∃ a, (tkF s a1).2 = a := ⟨_, rfl⟩
  have b2 := tkF_le s a1
  rw [ha] at b2
  go_wp2_with fail
  refine (took_any s a1 _ hz (by omega) (by omega)).mono ?_
  rintro e w7 ⟨rfl, G⟩
  rw [hq, ha]
  replace O := O.below G
  have HQ2 := Lib.hid hq; have HA2 := Lib.hid ha
  clear G hq ha
  have f1 := O.sy.frozen 1
  have d1 : w7.cell? ⟨Y, 1, none⟩ = some (.string none8) := O.sy.cell 1
  go_upto_region 11 with (fail)
  have O2 := O.set 1 (.string t1) (set1 ⟨3, none8, none8, zeros, none8, 0, 0⟩ _)
  clear O f1 d1
  generalize w7.setCell ⟨Y, 1, none⟩ (.string t1) = w8 at O2 ⊢
  have O : PS w w8 R Y L 3 ⟨3, t1, none8, zeros, none8, 0, 0⟩ := O2
  clear O2
  have f1 := O.sy.frozen 2
  have d1 : w8.cell? ⟨Y, 2, none⟩ = some (.string none8) := O.sy.cell 2
  go_upto_region 12 with (fail)
  have O2 := O.set 2 (.string t2) (set2 ⟨3, t1, none8, zeros, none8, 0, 0⟩ _)
  clear O f1 d1
  generalize w8.setCell ⟨Y, 2, none⟩ (.string t2) = w9 at O2 ⊢
  have O : PS w w9 R Y L 3 ⟨3, t1, t2, zeros, none8, 0, 0⟩ := O2
  clear O2
  have FF : psX s = ⟨3, t1, t2, zeros, none8, 0, 0⟩ ∧ psA s = a2 := by
    unfold psX psA ps3 ps2 ps1
    rw [HK.out]
    simp only [uT, uD, uM, uA, LT.out, LD.out, LM.out, LA.out, if_true, Bool.false_eq_true, if_false]
    simp only [HQ1.out, HA1.out, HQ2.out, HA2.out]
    first | exact ⟨rfl, rfl⟩ | exact ⟨rfl, trivial⟩ | exact ⟨trivial, rfl⟩ | trivial
  have O2 : PS w w9 R Y L 3 X := by rw [HX.out, FF.1]; exact O
  have FA := Lib.hid FF.2
  clear O FF ydl
  have O := O2
  clear O2
  have ok : Okay X := by rw [HX.out]; exact ps_okay s (by omega)
  have y1 : w9.cell? ⟨L, 1, none⟩ = some (.bool false) := O.ly.cell 1
  have y2 : w9.cell? ⟨L, 2, none⟩ = some (.bool false) := O.ly.cell 2
  have y3 : w9.cell? ⟨L, 3, none⟩ = some (.bool false) := O.ly.cell 3
  have E0' : w.heap.size ≤ R := O.ne.2.2.2
  by_cases ca : a2 = (s.size : Int)
  · have nq : (a2 != (s.size : Int)) = false := by simp [ca]
    have CA := Lib.hid ca
    clear ca
    have LY := sl_loads O.sy ok.dig.len
    go_wp2_with (with_reducible refine wpl_load_in LY ?_ rfl ?_ ?_; (· kernel_rfl); (· kernel_rfl))
    refine (rgood_any X _ ok).mono ?_
    rintro e wg ⟨rfl, G⟩
    replace O := O.below G
    clear G LY y1 y2 y3
    by_cases hc : Can X
    · rw [canB_yes hc]
      have LY := sl_loads O.sy ok.dig.len
      have S := sl_stores O.rs zeros_dig.len ok.dig.len
      have R1 := O.rs.row (slV X)
      have F1 := below_row (B := R) (cs := slV X) O.bel E0'
      generalize wg.setRow R (slV X) = w7 at S R1 F1
      go_wp2_with (first | refine wpl_load LY rfl rfl rfl ?_ | refine wpl_store S rfl rfl rfl rfl rfl ?_)
      exact bodyPost_ret (results_cellTmp Tryz.results92 _ rfl rfl (sl_loads R1 ok.dig.len)) rfl ⟨.inl ⟨FA.out.trans CA.out, by rw [← HX.out]; exact hc, by rw [← HX.out]; rfl⟩, F1⟩
    · rw [canB_no hc]
      have S := zero_stores O.rs
      have R1 := O.rs.row (slV Sp.zero)
      have F1 := below_row (B := R) (cs := slV Sp.zero) O.bel E0'
      generalize wg.setRow R (slV Sp.zero) = w7 at S R1 F1
      go_wp2_with (refine wpl_store S rfl rfl rfl rfl rfl ?_)
      exact bodyPost_ret (results_cellTmp Tryz.results92 _ rfl rfl (sl_loads R1 zeros_dig.len)) rfl ⟨.inr ⟨fun c => hc (by rw [HX.out]; exact c.2), rfl⟩, F1⟩
  · have nq : (a2 != (s.size : Int)) = true := by simp [ca]
    have S := zero_stores O.rs
    have R1 := O.rs.row (slV Sp.zero)
    have F1 := below_row (B := R) (cs := slV Sp.zero) O.bel E0'
    generalize w9.setRow R (slV Sp.zero) = w7 at S R1 F1
    go_wp2_with (refine wpl_store S rfl rfl rfl rfl rfl ?_)
    exact bodyPost_ret (results_cellTmp Tryz.results92 _ rfl rfl (sl_loads R1 zeros_dig.len)) rfl ⟨.inr ⟨fun c => ca (FA.out.symm.trans c.1), rfl⟩, F1⟩
set_option maxRecDepth 100000 in
set_option maxHeartbeats 4000000 in
theorem rparse_blob (s : ByteArray) (w : World) (hs : 1 ≤ s.size) (hz : s.size ≤ 1000000) (hk : psK s = 4) :
    Calls Tryz.prog 92 #[.string s] w fun e w' => ParsePost s w e w' := by
  have h0 := ps1_le s hs; have h2 := ps2_le s hs; have h3 := ps3_le s hs; have h4 := psA_le s hs
  have hb0 : bt s 0 = 4 := by rw [← bn_bt]; exact hk
  have gb : ∀ (h : 0 < s.size), ((s[0]'h).toNat : Int) = 4 := fun h => (get_bt s 0 h).trans hb0
  have l0 : ((s.size : Int) == 0) = false := by rw [beq_eq_false_iff_ne]; omega
  have l1 : (0 : Int) < (s.size : Int) := by omega
  obtain ⟨X, hX⟩ : ∃ X, X = psX s := ⟨_, rfl⟩
  have HX := Lib.hid hX
  have HK := Lib.hid hk
  clear hX hk hb0
  obtain ⟨R, e0, st⟩ := ans_start w
  have E0 := Lib.hid e0; have ST := Lib.hid st
  clear e0 st
  go_enter Tryz.func92, Tryz.ntmps92
  go_upto_region 1 with (fail)
  rw [← E0.out]
  obtain ⟨w1, hw1⟩ : ∃ w1, w1 = w.alloc (.cells #[.int .i64 0, .string ⟨#[]⟩, .string ⟨#[]⟩, .int .u8 0, .int .u8 0, .int .u8 0, .int .u8 0, .int .u8 0, .int .u8 0, .int .u8 0, .int .u8 0, .int .u8 0, .int .u8 0, .int .u8 0, .int .u8 0, .int .u8 0, .int .u8 0, .int .u8 0, .int .u8 0, .int .u8 0, .int .u8 0, .int .u8 0, .int .u8 0, .int .u8 0, .int .u8 0, .int .u8 0, .int .u8 0, .int .u8 0, .int .u8 0, .int .u8 0, .int .u8 0, .int .u8 0, .int .u8 0, .int .u8 0, .int .u8 0, .string ⟨#[]⟩, .int .i64 0, .int .i64 0] 39) := ⟨_, rfl⟩
  obtain ⟨hr, hb⟩ := ST.out _ hw1
  rw [← hw1]
  clear hw1 ST
  have HRL := Lib.hid hr.lt
  obtain ⟨w3, S3, hy, G3, Z3⟩ := k_keep w1 0
  replace hr := hr.old G3
  replace hb := hb.trans (G3.mono hb.size)
  have hRY : R ≠ w1.heap.size := by have := HRL.out; omega
  have hYn : w.heap.size ≤ w1.heap.size := by have := HRL.out; have := E0.out; omega
  clear G3 Z3
  go_upto_region 2 with (refine wpl_store S3 rfl rfl rfl rfl rfl ?_)
  clear S3
  generalize w1.heap.size = Y at hy hRY hYn ⊢
  have c0 : w3.cell? ⟨Y, 0, none⟩ = some (.int .i64 0) := hy.cell 0
  have f0 := hy.frozen 0
  go_upto_region 5 with (fail)
  replace hr := hr.other (a := ⟨Y, 0, none⟩) hRY (.int .i64 4)
  replace hb := below_cell hb hYn 0 (.int .i64 4)
  replace hy := hy.set 0 (.int .i64 4)
  clear c0 f0
  rw [set0] at hy
  generalize w3.setCell ⟨Y, 0, none⟩ (.int .i64 4) = w4 at hr hb hy ⊢
  have c0 : w4.cell? ⟨Y, 0, none⟩ = some (.int .i64 4) := hy.cell 0
  go_wp2_with fail
  refine (rhas_any 4 _ (by decide)).mono ?_
  rintro e w4' ⟨rfl, G⟩
  replace hr := hr.old G
  replace hy := hy.old G
  replace hb := hb.trans (G.mono hb.size)
  clear G c0
  obtain ⟨w5, S5, hl, G5, Z5⟩ := keep (P := Tryz.prog) (ty := 129) w4' #[.bool false, .bool false, .bool false, .bool false] (layV 4) 129 (by kernel_rfl) rfl (lay_one 4)
  have O : PS w w5 R Y w4'.heap.size 4 ⟨4, none8, none8, zeros, none8, 0, 0⟩ := ⟨hr.old G5, hy.old G5, hl, hb.trans (G5.mono hb.size), hRY, by have := hy.lt; omega, hYn, by have := E0.out; omega⟩
  clear Z5 G5 hl hr hy hb hRY hYn
  go_upto_region 6 with (refine wpl_store S5 rfl rfl rfl rfl rfl ?_)
  clear S5
  generalize w4'.heap.size = L at O ⊢
  have ydl := zeros_dig.len
  have LT : Hid (hT 4 = false) := Lib.hid rfl
  have LD : Hid (hD 4 = true) := Lib.hid rfl
  have LM : Hid (hM 4 = true) := Lib.hid rfl
  have LA : Hid (hA 4 = false) := Lib.hid rfl
  by_cases cD : (0 : Int) ≤ 1 ∧ 32 ≤ (s.size : Int) - 1
  · skip
    have hm32 : 1 + 32 ≤ s.size := by omega
    have p1 : (0 : Int) ≤ 1 := by omega
    have p2 : (32 : Int) ≤ (s.size : Int) - 1 := by omega
    clear cD
    have y0 : w5.cell? ⟨L, 0, none⟩ = some (.bool false) := O.ly.cell 0
    have y1 : w5.cell? ⟨L, 1, none⟩ = some (.bool true) := O.ly.cell 1
    go_upto_region 14 with (fail)
    clear y0 y1
    go_wp2
    go_loopw [11] (fun i wr => ∃ j : Nat, j ≤ 32 ∧ i = .int .i64 j ∧ PS w wr R Y L 4 ⟨4, none8, none8, dgI s 1 j, none8, 0, 0⟩) (fun i _ => 32 - (intOf i).toNat)
    case atStart => exact ⟨0, Nat.zero_le _, rfl, by rw [dgI_zero]; exact O⟩
    case round =>
      clear O
      obtain ⟨j, hj, rfl, O⟩ := hrel
      by_cases hlt : j < 32
      · have yl := dgI_len hm32 hj
        have old : wr.cell? ⟨Y, 3 + j, none⟩ = some (.int .u8 0) := (O.sy.cell (3 + j)).trans (slD (x := ⟨4, none8, none8, dgI s 1 j, none8, 0, 0⟩) yl (b := 0) (dgI_get hm32 hlt))
        have fr := O.sy.frozen (3 + j)
        have l1' : (j : Int) < 32 := by omega
        have i0 : (0 : Int) ≤ (j : Int) := by omega
        have i1 : (0 : Int) ≤ 1 + (j : Int) := by omega
        have i2 : 1 + (j : Int) < (s.size : Int) := by omega
        have tn1 : (1 + (j : Int)).toNat = 1 + j := by omega
        have gb2 : ∀ h : 1 + j < s.size, ((s[1 + j]'h).toNat : Int) = (bn s (1 + j) : Int) := fun h => (get_bt s _ h).trans (bn_bt s _).symm
        have O2 := (O.set (3 + j) (.int .u8 (bn s (1 + j) : Int)) (setD (x := ⟨4, none8, none8, dgI s 1 j, none8, 0, 0⟩) yl hlt _))
        have O3 : PS w (wr.setCell ⟨Y, 3 + j, none⟩ (.int .u8 (bn s (1 + j) : Int))) R Y L 4 ⟨4, none8, none8, dgI s 1 (j + 1), none8, 0, 0⟩ := by rw [← dgI_step hm32 hlt]; exact O2
        clear O O2
        go_upto_region 16 with (fail)
        generalize wr.setCell ⟨Y, 3 + j, none⟩ (.int .u8 (bn s (1 + j) : Int)) = wx at O3 ⊢
        clear old fr
        go_wp2
        go_roundw
        case rel => exact ⟨j + 1, by omega, by go_num, O3⟩
        case measure => simp [intOf]; omega
      · have l1' : ¬ (j : Int) < 32 := by omega
        obtain rfl : j = 32 := by omega
        rw [show dgI s 1 32 = (dgF s 1).1 from dgI_end hm32] at O
        obtain ⟨d, hd⟩ : ∃ d, (dgF s 1).1 = d := ⟨_, rfl⟩
        have ha : (dgF s 1).2 = 33 := dgF_yes (k := 1) hm32 ▸ rfl
        clear ydl
        have ydl := (dgF_dig s 1).len
        rw [hd] at ydl O
        have HD := Lib.hid hd; have HE := Lib.hid ha
        clear hd ha
        obtain ⟨w6, hw⟩ : ∃ z, z = wr := ⟨_, rfl⟩
        rw [← hw] at O ⊢
        clear hw
        have y2 : w6.cell? ⟨L, 2, none⟩ = some (.bool true) := O.ly.cell 2
        obtain ⟨t1, hq⟩ : ∃ t, (tkF s 33).1 = t := ⟨_, rfl⟩
        obtain ⟨a1, ha⟩ : ∃ a, (tkF s 33).2 = a := ⟨_, rfl⟩
        have b1 := tkF_le s 33
        rw [ha] at b1
        go_wp2_with fail
        refine (took_any s 33 _ hz (by omega) (by omega)).mono ?_
        rintro e w7 ⟨rfl, G⟩
        rw [hq, ha]
        replace O := O.below G
        have HQ1 := Lib.hid hq; have HA1 := Lib.hid ha
        clear G hq ha
        clear y2
        obtain ⟨v2, hq⟩ : ∃ t, (ctF s a1).1 = t := ⟨_, rfl⟩
        obtain ⟨a2, ha⟩ : ∃ a, (ctF s a1).2 = a := ⟨_, rfl⟩
        have b2 := ctF_le s a1
        rw [ha] at b2
        go_wp2_with fail
        refine (counted_any s a1 _ hz (by omega) (by omega)).mono ?_
        rintro e w8 ⟨rfl, G⟩
        rw [hq, ha]
        replace O := O.below G
        have HQ2 := Lib.hid hq; have HA2 := Lib.hid ha
        clear G hq ha
        have f1 := O.sy.frozen 35
        have d1 : w8.cell? ⟨Y, 35, none⟩ = some (.string none8) := (O.sy.cell 35).trans (sl35 ydl)
        go_upto_region 25 with (fail)
        have O2 := O.set 35 (.string t1) (set35 (x := ⟨4, none8, none8, d, none8, 0, 0⟩) ydl _)
        clear O f1 d1
        generalize w8.setCell ⟨Y, 35, none⟩ (.string t1) = w9 at O2 ⊢
        have O : PS w w9 R Y L 4 ⟨4, none8, none8, d, t1, 0, 0⟩ := O2
        clear O2
        have f1 := O.sy.frozen 36
        have d1 : w9.cell? ⟨Y, 36, none⟩ = some (.int .i64 0) := (O.sy.cell 36).trans (sl36 ydl)
        go_upto_region 26 with (fail)
        have O2 := O.set 36 (.int .i64 v2) (set36 (x := ⟨4, none8, none8, d, t1, 0, 0⟩) ydl _)
        clear O f1 d1
        generalize w9.setCell ⟨Y, 36, none⟩ (.int .i64 v2) = w10 at O2 ⊢
        have O : PS w w10 R Y L 4 ⟨4, none8, none8, d, t1, v2, 0⟩ := O2
        clear O2
        have FF : psX s = ⟨4, none8, none8, d, t1, v2, 0⟩ ∧ psA s = a2 := by
          unfold psX psA ps3 ps2 ps1
          rw [HK.out]
          simp only [uT, uD, uM, uA, LT.out, LD.out, LM.out, LA.out, if_true, Bool.false_eq_true, if_false]
          simp only [HD.out, HE.out, HQ1.out, HA1.out, HQ2.out, HA2.out]
          first | exact ⟨rfl, rfl⟩ | exact ⟨rfl, trivial⟩ | exact ⟨trivial, rfl⟩ | trivial
        have O2 : PS w w10 R Y L 4 X := by rw [HX.out, FF.1]; exact O
        have FA := Lib.hid FF.2
        clear O FF ydl
        have O := O2
        clear O2
        have ok : Okay X := by rw [HX.out]; exact ps_okay s (by omega)
        have y3 : w10.cell? ⟨L, 3, none⟩ = some (.bool false) := O.ly.cell 3
        have E0' : w.heap.size ≤ R := O.ne.2.2.2
        by_cases ca : a2 = (s.size : Int)
        · have nq : (a2 != (s.size : Int)) = false := by simp [ca]
          have CA := Lib.hid ca
          clear ca
          have LY := sl_loads O.sy ok.dig.len
          go_wp2_with (with_reducible refine wpl_load_in LY ?_ rfl ?_ ?_; (· kernel_rfl); (· kernel_rfl))
          refine (rgood_any X _ ok).mono ?_
          rintro e wg ⟨rfl, G⟩
          replace O := O.below G
          clear G LY y3
          by_cases hc : Can X
          · rw [canB_yes hc]
            have LY := sl_loads O.sy ok.dig.len
            have S := sl_stores O.rs zeros_dig.len ok.dig.len
            have R1 := O.rs.row (slV X)
            have F1 := below_row (B := R) (cs := slV X) O.bel E0'
            generalize wg.setRow R (slV X) = w7 at S R1 F1
            go_wp2_with (first | refine wpl_load LY rfl rfl rfl ?_ | refine wpl_store S rfl rfl rfl rfl rfl ?_)
            exact bodyPost_ret (results_cellTmp Tryz.results92 _ rfl rfl (sl_loads R1 ok.dig.len)) rfl ⟨.inl ⟨FA.out.trans CA.out, by rw [← HX.out]; exact hc, by rw [← HX.out]; rfl⟩, F1⟩
          · rw [canB_no hc]
            have S := zero_stores O.rs
            have R1 := O.rs.row (slV Sp.zero)
            have F1 := below_row (B := R) (cs := slV Sp.zero) O.bel E0'
            generalize wg.setRow R (slV Sp.zero) = w7 at S R1 F1
            go_wp2_with (refine wpl_store S rfl rfl rfl rfl rfl ?_)
            exact bodyPost_ret (results_cellTmp Tryz.results92 _ rfl rfl (sl_loads R1 zeros_dig.len)) rfl ⟨.inr ⟨fun c => hc (by rw [HX.out]; exact c.2), rfl⟩, F1⟩
        · have nq : (a2 != (s.size : Int)) = true := by simp [ca]
          have S := zero_stores O.rs
          have R1 := O.rs.row (slV Sp.zero)
          have F1 := below_row (B := R) (cs := slV Sp.zero) O.bel E0'
          generalize w10.setRow R (slV Sp.zero) = w7 at S R1 F1
          go_wp2_with (refine wpl_store S rfl rfl rfl rfl rfl ?_)
          exact bodyPost_ret (results_cellTmp Tryz.results92 _ rfl rfl (sl_loads R1 zeros_dig.len)) rfl ⟨.inr ⟨fun c => ca (FA.out.symm.trans c.1), rfl⟩, F1⟩
  · have hd : (dgF s 1).1 = zeros := by rw [dgF_no cD]
    have ha : (dgF s 1).2 = -1 := by rw [dgF_no cD]
    have HD := Lib.hid hd; have HE := Lib.hid ha
    clear hd ha
    have c1 : ¬ (32 : Int) ≤ (s.size : Int) - 1 := by omega
    have y0 : w5.cell? ⟨L, 0, none⟩ = some (.bool false) := O.ly.cell 0
    have y1 : w5.cell? ⟨L, 1, none⟩ = some (.bool true) := O.ly.cell 1
    have y2 : w5.cell? ⟨L, 2, none⟩ = some (.bool true) := O.ly.cell 2
    obtain ⟨t1, hq⟩ : ∃ t, (tkF s (-1)).1 = t := ⟨_, rfl⟩
    obtain ⟨a1, ha⟩ : ∃ a, (tkF s (-1)).2 = a := ⟨_, rfl⟩
    have b1 := tkF_le s (-1)
    rw [ha] at b1
    go_wp2_with fail
    refine (took_any s (-1) _ hz (by omega) (by omega)).mono ?_
    rintro e w6 ⟨rfl, G⟩
    rw [hq, ha]
    replace O := O.below G
    have HQ1 := Lib.hid hq; have HA1 := Lib.hid ha
    clear G hq ha
    clear y0 y1 y2
    obtain ⟨v2, hq⟩ : ∃ t, (ctF s a1).1 = t := ⟨_, rfl⟩
    obtain ⟨a2, ha⟩ : ∃ a, (ctF s a1).2 = a := ⟨_, rfl⟩
    have b2 := ctF_le s a1
    rw [ha] at b2
    go_wp2_with fail
    refine (counted_any s a1 _ hz (by omega) (by omega)).mono ?_
    rintro e w7 ⟨rfl, G⟩
    rw [hq, ha]
    replace O := O.below G
    have HQ2 := Lib.hid hq; have HA2 := Lib.hid ha
    clear G hq ha
    have f1 := O.sy.frozen 35
    have d1 : w7.cell? ⟨Y, 35, none⟩ = some (.string none8) := (O.sy.cell 35).trans (sl35 ydl)
    go_upto_region 25 with (fail)
    have O2 := O.set 35 (.string t1) (set35 (x := ⟨4, none8, none8, zeros, none8, 0, 0⟩) ydl _)
    clear O f1 d1
    generalize w7.setCell ⟨Y, 35, none⟩ (.string t1) = w8 at O2 ⊢
    have O : PS w w8 R Y L 4 ⟨4, none8, none8, zeros, t1, 0, 0⟩ := O2
    clear O2
    have f1 := O.sy.frozen 36
    have d1 : w8.cell? ⟨Y, 36, none⟩ = some (.int .i64 0) := (O.sy.cell 36).trans (sl36 ydl)
    go_upto_region 26 with (fail)
    have O2 := O.set 36 (.int .i64 v2) (set36 (x := ⟨4, none8, none8, zeros, t1, 0, 0⟩) ydl _)
    clear O f1 d1
    generalize w8.setCell ⟨Y, 36, none⟩ (.int .i64 v2) = w9 at O2 ⊢
    have O : PS w w9 R Y L 4 ⟨4, none8, none8, zeros, t1, v2, 0⟩ := O2
    clear O2
    have FF : psX s = ⟨4, none8, none8, zeros, t1, v2, 0⟩ ∧ psA s = a2 := by
      unfold psX psA ps3 ps2 ps1
      rw [HK.out]
      simp only [uT, uD, uM, uA, LT.out, LD.out, LM.out, LA.out, if_true, Bool.false_eq_true, if_false]
      simp only [HD.out, HE.out, HQ1.out, HA1.out, HQ2.out, HA2.out]
      first | exact ⟨rfl, rfl⟩ | exact ⟨rfl, trivial⟩ | exact ⟨trivial, rfl⟩ | trivial
    have O2 : PS w w9 R Y L 4 X := by rw [HX.out, FF.1]; exact O
    have FA := Lib.hid FF.2
    clear O FF ydl
    have O := O2
    clear O2
    have ok : Okay X := by rw [HX.out]; exact ps_okay s (by omega)
    have y3 : w9.cell? ⟨L, 3, none⟩ = some (.bool false) := O.ly.cell 3
    have E0' : w.heap.size ≤ R := O.ne.2.2.2
    by_cases ca : a2 = (s.size : Int)
    · have nq : (a2 != (s.size : Int)) = false := by simp [ca]
      have CA := Lib.hid ca
      clear ca
      have LY := sl_loads O.sy ok.dig.len
      go_wp2_with (with_reducible refine wpl_load_in LY ?_ rfl ?_ ?_; (· kernel_rfl); (· kernel_rfl))
      refine (rgood_any X _ ok).mono ?_
      rintro e wg ⟨rfl, G⟩
      replace O := O.below G
      clear G LY y3
      by_cases hc : Can X
      · rw [canB_yes hc]
        have LY := sl_loads O.sy ok.dig.len
        have S := sl_stores O.rs zeros_dig.len ok.dig.len
        have R1 := O.rs.row (slV X)
        have F1 := below_row (B := R) (cs := slV X) O.bel E0'
        generalize wg.setRow R (slV X) = w7 at S R1 F1
        go_wp2_with (first | refine wpl_load LY rfl rfl rfl ?_ | refine wpl_store S rfl rfl rfl rfl rfl ?_)
        exact bodyPost_ret (results_cellTmp Tryz.results92 _ rfl rfl (sl_loads R1 ok.dig.len)) rfl ⟨.inl ⟨FA.out.trans CA.out, by rw [← HX.out]; exact hc, by rw [← HX.out]; rfl⟩, F1⟩
      · rw [canB_no hc]
        have S := zero_stores O.rs
        have R1 := O.rs.row (slV Sp.zero)
        have F1 := below_row (B := R) (cs := slV Sp.zero) O.bel E0'
        generalize wg.setRow R (slV Sp.zero) = w7 at S R1 F1
        go_wp2_with (refine wpl_store S rfl rfl rfl rfl rfl ?_)
        exact bodyPost_ret (results_cellTmp Tryz.results92 _ rfl rfl (sl_loads R1 zeros_dig.len)) rfl ⟨.inr ⟨fun c => hc (by rw [HX.out]; exact c.2), rfl⟩, F1⟩
    · have nq : (a2 != (s.size : Int)) = true := by simp [ca]
      have S := zero_stores O.rs
      have R1 := O.rs.row (slV Sp.zero)
      have F1 := below_row (B := R) (cs := slV Sp.zero) O.bel E0'
      generalize w9.setRow R (slV Sp.zero) = w7 at S R1 F1
      go_wp2_with (refine wpl_store S rfl rfl rfl rfl rfl ?_)
      exact bodyPost_ret (results_cellTmp Tryz.results92 _ rfl rfl (sl_loads R1 zeros_dig.len)) rfl ⟨.inr ⟨fun c => ca (FA.out.symm.trans c.1), rfl⟩, F1⟩
set_option maxRecDepth 100000 in
set_option maxHeartbeats 4000000 in
theorem rparse_gone (s : ByteArray) (w : World) (hs : 1 ≤ s.size) (hz : s.size ≤ 1000000) (hk : psK s = 5) :
    Calls Tryz.prog 92 #[.string s] w fun e w' => ParsePost s w e w' := by
  have h0 := ps1_le s hs; have h2 := ps2_le s hs; have h3 := ps3_le s hs; have h4 := psA_le s hs
  have hb0 : bt s 0 = 5 := by rw [← bn_bt]; exact hk
  have gb : ∀ (h : 0 < s.size), ((s[0]'h).toNat : Int) = 5 := fun h => (get_bt s 0 h).trans hb0
  have l0 : ((s.size : Int) == 0) = false := by rw [beq_eq_false_iff_ne]; omega
  have l1 : (0 : Int) < (s.size : Int) := by omega
  obtain ⟨X, hX⟩ : ∃ X, X = psX s := ⟨_, rfl⟩
  have HX := Lib.hid hX
  have HK := Lib.hid hk
  clear hX hk hb0
  obtain ⟨R, e0, st⟩ := ans_start w
  have E0 := Lib.hid e0; have ST := Lib.hid st
  clear e0 st
  go_enter Tryz.func92, Tryz.ntmps92
  go_upto_region 1 with (fail)
  rw [← E0.out]
  obtain ⟨w1, hw1⟩ : ∃ w1, w1 = w.alloc (.cells #[.int .i64 0, .string ⟨#[]⟩, .string ⟨#[]⟩, .int .u8 0, .int .u8 0, .int .u8 0, .int .u8 0, .int .u8 0, .int .u8 0, .int .u8 0, .int .u8 0, .int .u8 0, .int .u8 0, .int .u8 0, .int .u8 0, .int .u8 0, .int .u8 0, .int .u8 0, .int .u8 0, .int .u8 0, .int .u8 0, .int .u8 0, .int .u8 0, .int .u8 0, .int .u8 0, .int .u8 0, .int .u8 0, .int .u8 0, .int .u8 0, .int .u8 0, .int .u8 0, .int .u8 0, .int .u8 0, .int .u8 0, .int .u8 0, .string ⟨#[]⟩, .int .i64 0, .int .i64 0] 39) := ⟨_, rfl⟩
  obtain ⟨hr, hb⟩ := ST.out _ hw1
  rw [← hw1]
  clear hw1 ST
  have HRL := Lib.hid hr.lt
  obtain ⟨w3, S3, hy, G3, Z3⟩ := k_keep w1 0
  replace hr := hr.old G3
  replace hb := hb.trans (G3.mono hb.size)
  have hRY : R ≠ w1.heap.size := by have := HRL.out; omega
  have hYn : w.heap.size ≤ w1.heap.size := by have := HRL.out; have := E0.out; omega
  clear G3 Z3
  go_upto_region 2 with (refine wpl_store S3 rfl rfl rfl rfl rfl ?_)
  clear S3
  generalize w1.heap.size = Y at hy hRY hYn ⊢
  have c0 : w3.cell? ⟨Y, 0, none⟩ = some (.int .i64 0) := hy.cell 0
  have f0 := hy.frozen 0
  go_upto_region 5 with (fail)
  replace hr := hr.other (a := ⟨Y, 0, none⟩) hRY (.int .i64 5)
  replace hb := below_cell hb hYn 0 (.int .i64 5)
  replace hy := hy.set 0 (.int .i64 5)
  clear c0 f0
  rw [set0] at hy
  generalize w3.setCell ⟨Y, 0, none⟩ (.int .i64 5) = w4 at hr hb hy ⊢
  have c0 : w4.cell? ⟨Y, 0, none⟩ = some (.int .i64 5) := hy.cell 0
  go_wp2_with fail
  refine (rhas_any 5 _ (by decide)).mono ?_
  rintro e w4' ⟨rfl, G⟩
  replace hr := hr.old G
  replace hy := hy.old G
  replace hb := hb.trans (G.mono hb.size)
  clear G c0
  obtain ⟨w5, S5, hl, G5, Z5⟩ := keep (P := Tryz.prog) (ty := 129) w4' #[.bool false, .bool false, .bool false, .bool false] (layV 5) 129 (by kernel_rfl) rfl (lay_one 5)
  have O : PS w w5 R Y w4'.heap.size 5 ⟨5, none8, none8, zeros, none8, 0, 0⟩ := ⟨hr.old G5, hy.old G5, hl, hb.trans (G5.mono hb.size), hRY, by have := hy.lt; omega, hYn, by have := E0.out; omega⟩
  clear Z5 G5 hl hr hy hb hRY hYn
  go_upto_region 6 with (refine wpl_store S5 rfl rfl rfl rfl rfl ?_)
  clear S5
  generalize w4'.heap.size = L at O ⊢
  have ydl := zeros_dig.len
  have LT : Hid (hT 5 = false) := Lib.hid rfl
  have LD : Hid (hD 5 = true) := Lib.hid rfl
  have LM : Hid (hM 5 = false) := Lib.hid rfl
  have LA : Hid (hA 5 = false) := Lib.hid rfl
  by_cases cD : (0 : Int) ≤ 1 ∧ 32 ≤ (s.size : Int) - 1
  · skip
    have hm32 : 1 + 32 ≤ s.size := by omega
    have p1 : (0 : Int) ≤ 1 := by omega
    have p2 : (32 : Int) ≤ (s.size : Int) - 1 := by omega
    clear cD
    have y0 : w5.cell? ⟨L, 0, none⟩ = some (.bool false) := O.ly.cell 0
    have y1 : w5.cell? ⟨L, 1, none⟩ = some (.bool true) := O.ly.cell 1
    go_upto_region 14 with (fail)
    clear y0 y1
    go_wp2
    go_loopw [11] (fun i wr => ∃ j : Nat, j ≤ 32 ∧ i = .int .i64 j ∧ PS w wr R Y L 5 ⟨5, none8, none8, dgI s 1 j, none8, 0, 0⟩) (fun i _ => 32 - (intOf i).toNat)
    case atStart => exact ⟨0, Nat.zero_le _, rfl, by rw [dgI_zero]; exact O⟩
    case round =>
      clear O
      obtain ⟨j, hj, rfl, O⟩ := hrel
      by_cases hlt : j < 32
      · have yl := dgI_len hm32 hj
        have old : wr.cell? ⟨Y, 3 + j, none⟩ = some (.int .u8 0) := (O.sy.cell (3 + j)).trans (slD (x := ⟨5, none8, none8, dgI s 1 j, none8, 0, 0⟩) yl (b := 0) (dgI_get hm32 hlt))
        have fr := O.sy.frozen (3 + j)
        have l1' : (j : Int) < 32 := by omega
        have i0 : (0 : Int) ≤ (j : Int) := by omega
        have i1 : (0 : Int) ≤ 1 + (j : Int) := by omega
        have i2 : 1 + (j : Int) < (s.size : Int) := by omega
        have tn1 : (1 + (j : Int)).toNat = 1 + j := by omega
        have gb2 : ∀ h : 1 + j < s.size, ((s[1 + j]'h).toNat : Int) = (bn s (1 + j) : Int) := fun h => (get_bt s _ h).trans (bn_bt s _).symm
        have O2 := (O.set (3 + j) (.int .u8 (bn s (1 + j) : Int)) (setD (x := ⟨5, none8, none8, dgI s 1 j, none8, 0, 0⟩) yl hlt _))
        have O3 : PS w (wr.setCell ⟨Y, 3 + j, none⟩ (.int .u8 (bn s (1 + j) : Int))) R Y L 5 ⟨5, none8, none8, dgI s 1 (j + 1), none8, 0, 0⟩ := by rw [← dgI_step hm32 hlt]; exact O2
        clear O O2
        go_upto_region 16 with (fail)
        generalize wr.setCell ⟨Y, 3 + j, none⟩ (.int .u8 (bn s (1 + j) : Int)) = wx at O3 ⊢
        clear old fr
        go_wp2
        go_roundw
        case rel => exact ⟨j + 1, by omega, by go_num, O3⟩
        case measure => simp [intOf]; omega
      · have l1' : ¬ (j : Int) < 32 := by omega
        obtain rfl : j = 32 := by omega
        rw [show dgI s 1 32 = (dgF s 1).1 from dgI_end hm32] at O
        obtain ⟨d, hd⟩ : ∃ d, (dgF s 1).1 = d := ⟨_, rfl⟩
        have ha : (dgF s 1).2 = 33 := dgF_yes (k := 1) hm32 ▸ rfl
        clear ydl
        have ydl := (dgF_dig s 1).len
        rw [hd] at ydl O
        have HD := Lib.hid hd; have HE := Lib.hid ha
        clear hd ha
        obtain ⟨w6, hw⟩ : ∃ z, z = wr := ⟨_, rfl⟩
        rw [← hw] at O ⊢
        clear hw
        have FF : psX s = ⟨5, none8, none8, d, none8, 0, 0⟩ ∧ psA s = 33 := by
          unfold psX psA ps3 ps2 ps1
          rw [HK.out]
          simp only [uT, uD, uM, uA, LT.out, LD.out, LM.out, LA.out, if_true, Bool.false_eq_true, if_false]
          simp only [HD.out, HE.out]
          first | exact ⟨rfl, rfl⟩ | exact ⟨rfl, trivial⟩ | exact ⟨trivial, rfl⟩ | trivial
        have O2 : PS w w6 R Y L 5 X := by rw [HX.out, FF.1]; exact O
        have FA := Lib.hid FF.2
        clear O FF ydl
        have O := O2
        clear O2
        have ok : Okay X := by rw [HX.out]; exact ps_okay s (by omega)
        have y2 : w6.cell? ⟨L, 2, none⟩ = some (.bool false) := O.ly.cell 2
        have y3 : w6.cell? ⟨L, 3, none⟩ = some (.bool false) := O.ly.cell 3
        have E0' : w.heap.size ≤ R := O.ne.2.2.2
        by_cases ca : 33 = (s.size : Int)
        · have nq : (33 != (s.size : Int)) = false := by simp [ca]
          have CA := Lib.hid ca
          clear ca
          have LY := sl_loads O.sy ok.dig.len
          go_wp2_with (with_reducible refine wpl_load_in LY ?_ rfl ?_ ?_; (· kernel_rfl); (· kernel_rfl))
          refine (rgood_any X _ ok).mono ?_
          rintro e wg ⟨rfl, G⟩
          replace O := O.below G
          clear G LY y2 y3
          by_cases hc : Can X
          · rw [canB_yes hc]
            have LY := sl_loads O.sy ok.dig.len
            have S := sl_stores O.rs zeros_dig.len ok.dig.len
            have R1 := O.rs.row (slV X)
            have F1 := below_row (B := R) (cs := slV X) O.bel E0'
            generalize wg.setRow R (slV X) = w7 at S R1 F1
            go_wp2_with (first | refine wpl_load LY rfl rfl rfl ?_ | refine wpl_store S rfl rfl rfl rfl rfl ?_)
            exact bodyPost_ret (results_cellTmp Tryz.results92 _ rfl rfl (sl_loads R1 ok.dig.len)) rfl ⟨.inl ⟨FA.out.trans CA.out, by rw [← HX.out]; exact hc, by rw [← HX.out]; rfl⟩, F1⟩
          · rw [canB_no hc]
            have S := zero_stores O.rs
            have R1 := O.rs.row (slV Sp.zero)
            have F1 := below_row (B := R) (cs := slV Sp.zero) O.bel E0'
            generalize wg.setRow R (slV Sp.zero) = w7 at S R1 F1
            go_wp2_with (refine wpl_store S rfl rfl rfl rfl rfl ?_)
            exact bodyPost_ret (results_cellTmp Tryz.results92 _ rfl rfl (sl_loads R1 zeros_dig.len)) rfl ⟨.inr ⟨fun c => hc (by rw [HX.out]; exact c.2), rfl⟩, F1⟩
        · have nq : (33 != (s.size : Int)) = true := by simp [ca]
          have S := zero_stores O.rs
          have R1 := O.rs.row (slV Sp.zero)
          have F1 := below_row (B := R) (cs := slV Sp.zero) O.bel E0'
          generalize w6.setRow R (slV Sp.zero) = w7 at S R1 F1
          go_wp2_with (refine wpl_store S rfl rfl rfl rfl rfl ?_)
          exact bodyPost_ret (results_cellTmp Tryz.results92 _ rfl rfl (sl_loads R1 zeros_dig.len)) rfl ⟨.inr ⟨fun c => ca (FA.out.symm.trans c.1), rfl⟩, F1⟩
  · have hd : (dgF s 1).1 = zeros := by rw [dgF_no cD]
    have ha : (dgF s 1).2 = -1 := by rw [dgF_no cD]
    have HD := Lib.hid hd; have HE := Lib.hid ha
    clear hd ha
    have c1 : ¬ (32 : Int) ≤ (s.size : Int) - 1 := by omega
    have FF : psX s = ⟨5, none8, none8, zeros, none8, 0, 0⟩ ∧ psA s = (-1) := by
      unfold psX psA ps3 ps2 ps1
      rw [HK.out]
      simp only [uT, uD, uM, uA, LT.out, LD.out, LM.out, LA.out, if_true, Bool.false_eq_true, if_false]
      simp only [HD.out, HE.out]
      first | exact ⟨rfl, rfl⟩ | exact ⟨rfl, trivial⟩ | exact ⟨trivial, rfl⟩ | trivial
    have O2 : PS w w5 R Y L 5 X := by rw [HX.out, FF.1]; exact O
    have FA := Lib.hid FF.2
    clear O FF ydl
    have O := O2
    clear O2
    have ok : Okay X := by rw [HX.out]; exact ps_okay s (by omega)
    have y0 : w5.cell? ⟨L, 0, none⟩ = some (.bool false) := O.ly.cell 0
    have y1 : w5.cell? ⟨L, 1, none⟩ = some (.bool true) := O.ly.cell 1
    have y2 : w5.cell? ⟨L, 2, none⟩ = some (.bool false) := O.ly.cell 2
    have y3 : w5.cell? ⟨L, 3, none⟩ = some (.bool false) := O.ly.cell 3
    have E0' : w.heap.size ≤ R := O.ne.2.2.2
    by_cases ca : (-1) = (s.size : Int)
    · have nq : ((-1) != (s.size : Int)) = false := by simp [ca]
      have CA := Lib.hid ca
      clear ca
      have LY := sl_loads O.sy ok.dig.len
      go_wp2_with (with_reducible refine wpl_load_in LY ?_ rfl ?_ ?_; (· kernel_rfl); (· kernel_rfl))
      refine (rgood_any X _ ok).mono ?_
      rintro e wg ⟨rfl, G⟩
      replace O := O.below G
      clear G LY y0 y1 y2 y3
      by_cases hc : Can X
      · rw [canB_yes hc]
        have LY := sl_loads O.sy ok.dig.len
        have S := sl_stores O.rs zeros_dig.len ok.dig.len
        have R1 := O.rs.row (slV X)
        have F1 := below_row (B := R) (cs := slV X) O.bel E0'
        generalize wg.setRow R (slV X) = w7 at S R1 F1
        go_wp2_with (first | refine wpl_load LY rfl rfl rfl ?_ | refine wpl_store S rfl rfl rfl rfl rfl ?_)
        exact bodyPost_ret (results_cellTmp Tryz.results92 _ rfl rfl (sl_loads R1 ok.dig.len)) rfl ⟨.inl ⟨FA.out.trans CA.out, by rw [← HX.out]; exact hc, by rw [← HX.out]; rfl⟩, F1⟩
      · rw [canB_no hc]
        have S := zero_stores O.rs
        have R1 := O.rs.row (slV Sp.zero)
        have F1 := below_row (B := R) (cs := slV Sp.zero) O.bel E0'
        generalize wg.setRow R (slV Sp.zero) = w7 at S R1 F1
        go_wp2_with (refine wpl_store S rfl rfl rfl rfl rfl ?_)
        exact bodyPost_ret (results_cellTmp Tryz.results92 _ rfl rfl (sl_loads R1 zeros_dig.len)) rfl ⟨.inr ⟨fun c => hc (by rw [HX.out]; exact c.2), rfl⟩, F1⟩
    · have nq : ((-1) != (s.size : Int)) = true := by simp [ca]
      have S := zero_stores O.rs
      have R1 := O.rs.row (slV Sp.zero)
      have F1 := below_row (B := R) (cs := slV Sp.zero) O.bel E0'
      generalize w5.setRow R (slV Sp.zero) = w7 at S R1 F1
      go_wp2_with (refine wpl_store S rfl rfl rfl rfl rfl ?_)
      exact bodyPost_ret (results_cellTmp Tryz.results92 _ rfl rfl (sl_loads R1 zeros_dig.len)) rfl ⟨.inr ⟨fun c => ca (FA.out.symm.trans c.1), rfl⟩, F1⟩
set_option maxRecDepth 100000 in
set_option maxHeartbeats 4000000 in
theorem rparse_touch (s : ByteArray) (w : World) (hs : 1 ≤ s.size) (hz : s.size ≤ 1000000) (hk : psK s = 6) :
    Calls Tryz.prog 92 #[.string s] w fun e w' => ParsePost s w e w' := by
  have h0 := ps1_le s hs; have h2 := ps2_le s hs; have h3 := ps3_le s hs; have h4 := psA_le s hs
  have hb0 : bt s 0 = 6 := by rw [← bn_bt]; exact hk
  have gb : ∀ (h : 0 < s.size), ((s[0]'h).toNat : Int) = 6 := fun h => (get_bt s 0 h).trans hb0
  have l0 : ((s.size : Int) == 0) = false := by rw [beq_eq_false_iff_ne]; omega
  have l1 : (0 : Int) < (s.size : Int) := by omega
  obtain ⟨X, hX⟩ : ∃ X, X = psX s := ⟨_, rfl⟩
  have HX := Lib.hid hX
  have HK := Lib.hid hk
  clear hX hk hb0
  obtain ⟨R, e0, st⟩ := ans_start w
  have E0 := Lib.hid e0; have ST := Lib.hid st
  clear e0 st
  go_enter Tryz.func92, Tryz.ntmps92
  go_upto_region 1 with (fail)
  rw [← E0.out]
  obtain ⟨w1, hw1⟩ : ∃ w1, w1 = w.alloc (.cells #[.int .i64 0, .string ⟨#[]⟩, .string ⟨#[]⟩, .int .u8 0, .int .u8 0, .int .u8 0, .int .u8 0, .int .u8 0, .int .u8 0, .int .u8 0, .int .u8 0, .int .u8 0, .int .u8 0, .int .u8 0, .int .u8 0, .int .u8 0, .int .u8 0, .int .u8 0, .int .u8 0, .int .u8 0, .int .u8 0, .int .u8 0, .int .u8 0, .int .u8 0, .int .u8 0, .int .u8 0, .int .u8 0, .int .u8 0, .int .u8 0, .int .u8 0, .int .u8 0, .int .u8 0, .int .u8 0, .int .u8 0, .int .u8 0, .string ⟨#[]⟩, .int .i64 0, .int .i64 0] 39) := ⟨_, rfl⟩
  obtain ⟨hr, hb⟩ := ST.out _ hw1
  rw [← hw1]
  clear hw1 ST
  have HRL := Lib.hid hr.lt
  obtain ⟨w3, S3, hy, G3, Z3⟩ := k_keep w1 0
  replace hr := hr.old G3
  replace hb := hb.trans (G3.mono hb.size)
  have hRY : R ≠ w1.heap.size := by have := HRL.out; omega
  have hYn : w.heap.size ≤ w1.heap.size := by have := HRL.out; have := E0.out; omega
  clear G3 Z3
  go_upto_region 2 with (refine wpl_store S3 rfl rfl rfl rfl rfl ?_)
  clear S3
  generalize w1.heap.size = Y at hy hRY hYn ⊢
  have c0 : w3.cell? ⟨Y, 0, none⟩ = some (.int .i64 0) := hy.cell 0
  have f0 := hy.frozen 0
  go_upto_region 5 with (fail)
  replace hr := hr.other (a := ⟨Y, 0, none⟩) hRY (.int .i64 6)
  replace hb := below_cell hb hYn 0 (.int .i64 6)
  replace hy := hy.set 0 (.int .i64 6)
  clear c0 f0
  rw [set0] at hy
  generalize w3.setCell ⟨Y, 0, none⟩ (.int .i64 6) = w4 at hr hb hy ⊢
  have c0 : w4.cell? ⟨Y, 0, none⟩ = some (.int .i64 6) := hy.cell 0
  go_wp2_with fail
  refine (rhas_any 6 _ (by decide)).mono ?_
  rintro e w4' ⟨rfl, G⟩
  replace hr := hr.old G
  replace hy := hy.old G
  replace hb := hb.trans (G.mono hb.size)
  clear G c0
  obtain ⟨w5, S5, hl, G5, Z5⟩ := keep (P := Tryz.prog) (ty := 129) w4' #[.bool false, .bool false, .bool false, .bool false] (layV 6) 129 (by kernel_rfl) rfl (lay_one 6)
  have O : PS w w5 R Y w4'.heap.size 6 ⟨6, none8, none8, zeros, none8, 0, 0⟩ := ⟨hr.old G5, hy.old G5, hl, hb.trans (G5.mono hb.size), hRY, by have := hy.lt; omega, hYn, by have := E0.out; omega⟩
  clear Z5 G5 hl hr hy hb hRY hYn
  go_upto_region 6 with (refine wpl_store S5 rfl rfl rfl rfl rfl ?_)
  clear S5
  generalize w4'.heap.size = L at O ⊢
  have ydl := zeros_dig.len
  have LT : Hid (hT 6 = false) := Lib.hid rfl
  have LD : Hid (hD 6 = true) := Lib.hid rfl
  have LM : Hid (hM 6 = false) := Lib.hid rfl
  have LA : Hid (hA 6 = false) := Lib.hid rfl
  by_cases cD : (0 : Int) ≤ 1 ∧ 32 ≤ (s.size : Int) - 1
  · skip
    have hm32 : 1 + 32 ≤ s.size := by omega
    have p1 : (0 : Int) ≤ 1 := by omega
    have p2 : (32 : Int) ≤ (s.size : Int) - 1 := by omega
    clear cD
    have y0 : w5.cell? ⟨L, 0, none⟩ = some (.bool false) := O.ly.cell 0
    have y1 : w5.cell? ⟨L, 1, none⟩ = some (.bool true) := O.ly.cell 1
    go_upto_region 14 with (fail)
    clear y0 y1
    go_wp2
    go_loopw [11] (fun i wr => ∃ j : Nat, j ≤ 32 ∧ i = .int .i64 j ∧ PS w wr R Y L 6 ⟨6, none8, none8, dgI s 1 j, none8, 0, 0⟩) (fun i _ => 32 - (intOf i).toNat)
    case atStart => exact ⟨0, Nat.zero_le _, rfl, by rw [dgI_zero]; exact O⟩
    case round =>
      clear O
      obtain ⟨j, hj, rfl, O⟩ := hrel
      by_cases hlt : j < 32
      · have yl := dgI_len hm32 hj
        have old : wr.cell? ⟨Y, 3 + j, none⟩ = some (.int .u8 0) := (O.sy.cell (3 + j)).trans (slD (x := ⟨6, none8, none8, dgI s 1 j, none8, 0, 0⟩) yl (b := 0) (dgI_get hm32 hlt))
        have fr := O.sy.frozen (3 + j)
        have l1' : (j : Int) < 32 := by omega
        have i0 : (0 : Int) ≤ (j : Int) := by omega
        have i1 : (0 : Int) ≤ 1 + (j : Int) := by omega
        have i2 : 1 + (j : Int) < (s.size : Int) := by omega
        have tn1 : (1 + (j : Int)).toNat = 1 + j := by omega
        have gb2 : ∀ h : 1 + j < s.size, ((s[1 + j]'h).toNat : Int) = (bn s (1 + j) : Int) := fun h => (get_bt s _ h).trans (bn_bt s _).symm
        have O2 := (O.set (3 + j) (.int .u8 (bn s (1 + j) : Int)) (setD (x := ⟨6, none8, none8, dgI s 1 j, none8, 0, 0⟩) yl hlt _))
        have O3 : PS w (wr.setCell ⟨Y, 3 + j, none⟩ (.int .u8 (bn s (1 + j) : Int))) R Y L 6 ⟨6, none8, none8, dgI s 1 (j + 1), none8, 0, 0⟩ := by rw [← dgI_step hm32 hlt]; exact O2
        clear O O2
        go_upto_region 16 with (fail)
        generalize wr.setCell ⟨Y, 3 + j, none⟩ (.int .u8 (bn s (1 + j) : Int)) = wx at O3 ⊢
        clear old fr
        go_wp2
        go_roundw
        case rel => exact ⟨j + 1, by omega, by go_num, O3⟩
        case measure => simp [intOf]; omega
      · have l1' : ¬ (j : Int) < 32 := by omega
        obtain rfl : j = 32 := by omega
        rw [show dgI s 1 32 = (dgF s 1).1 from dgI_end hm32] at O
        obtain ⟨d, hd⟩ : ∃ d, (dgF s 1).1 = d := ⟨_, rfl⟩
        have ha : (dgF s 1).2 = 33 := dgF_yes (k := 1) hm32 ▸ rfl
        clear ydl
        have ydl := (dgF_dig s 1).len
        rw [hd] at ydl O
        have HD := Lib.hid hd; have HE := Lib.hid ha
        clear hd ha
        obtain ⟨w6, hw⟩ : ∃ z, z = wr := ⟨_, rfl⟩
        rw [← hw] at O ⊢
        clear hw
        have FF : psX s = ⟨6, none8, none8, d, none8, 0, 0⟩ ∧ psA s = 33 := by
          unfold psX psA ps3 ps2 ps1
          rw [HK.out]
          simp only [uT, uD, uM, uA, LT.out, LD.out, LM.out, LA.out, if_true, Bool.false_eq_true, if_false]
          simp only [HD.out, HE.out]
          first | exact ⟨rfl, rfl⟩ | exact ⟨rfl, trivial⟩ | exact ⟨trivial, rfl⟩ | trivial
        have O2 : PS w w6 R Y L 6 X := by rw [HX.out, FF.1]; exact O
        have FA := Lib.hid FF.2
        clear O FF ydl
        have O := O2
        clear O2
        have ok : Okay X := by rw [HX.out]; exact ps_okay s (by omega)
        have y2 : w6.cell? ⟨L, 2, none⟩ = some (.bool false) := O.ly.cell 2
        have y3 : w6.cell? ⟨L, 3, none⟩ = some (.bool false) := O.ly.cell 3
        have E0' : w.heap.size ≤ R := O.ne.2.2.2
        by_cases ca : 33 = (s.size : Int)
        · have nq : (33 != (s.size : Int)) = false := by simp [ca]
          have CA := Lib.hid ca
          clear ca
          have LY := sl_loads O.sy ok.dig.len
          go_wp2_with (with_reducible refine wpl_load_in LY ?_ rfl ?_ ?_; (· kernel_rfl); (· kernel_rfl))
          refine (rgood_any X _ ok).mono ?_
          rintro e wg ⟨rfl, G⟩
          replace O := O.below G
          clear G LY y2 y3
          by_cases hc : Can X
          · rw [canB_yes hc]
            have LY := sl_loads O.sy ok.dig.len
            have S := sl_stores O.rs zeros_dig.len ok.dig.len
            have R1 := O.rs.row (slV X)
            have F1 := below_row (B := R) (cs := slV X) O.bel E0'
            generalize wg.setRow R (slV X) = w7 at S R1 F1
            go_wp2_with (first | refine wpl_load LY rfl rfl rfl ?_ | refine wpl_store S rfl rfl rfl rfl rfl ?_)
            exact bodyPost_ret (results_cellTmp Tryz.results92 _ rfl rfl (sl_loads R1 ok.dig.len)) rfl ⟨.inl ⟨FA.out.trans CA.out, by rw [← HX.out]; exact hc, by rw [← HX.out]; rfl⟩, F1⟩
          · rw [canB_no hc]
            have S := zero_stores O.rs
            have R1 := O.rs.row (slV Sp.zero)
            have F1 := below_row (B := R) (cs := slV Sp.zero) O.bel E0'
            generalize wg.setRow R (slV Sp.zero) = w7 at S R1 F1
            go_wp2_with (refine wpl_store S rfl rfl rfl rfl rfl ?_)
            exact bodyPost_ret (results_cellTmp Tryz.results92 _ rfl rfl (sl_loads R1 zeros_dig.len)) rfl ⟨.inr ⟨fun c => hc (by rw [HX.out]; exact c.2), rfl⟩, F1⟩
        · have nq : (33 != (s.size : Int)) = true := by simp [ca]
          have S := zero_stores O.rs
          have R1 := O.rs.row (slV Sp.zero)
          have F1 := below_row (B := R) (cs := slV Sp.zero) O.bel E0'
          generalize w6.setRow R (slV Sp.zero) = w7 at S R1 F1
          go_wp2_with (refine wpl_store S rfl rfl rfl rfl rfl ?_)
          exact bodyPost_ret (results_cellTmp Tryz.results92 _ rfl rfl (sl_loads R1 zeros_dig.len)) rfl ⟨.inr ⟨fun c => ca (FA.out.symm.trans c.1), rfl⟩, F1⟩
  · have hd : (dgF s 1).1 = zeros := by rw [dgF_no cD]
    have ha : (dgF s 1).2 = -1 := by rw [dgF_no cD]
    have HD := Lib.hid hd; have HE := Lib.hid ha
    clear hd ha
    have c1 : ¬ (32 : Int) ≤ (s.size : Int) - 1 := by omega
    have FF : psX s = ⟨6, none8, none8, zeros, none8, 0, 0⟩ ∧ psA s = (-1) := by
      unfold psX psA ps3 ps2 ps1
      rw [HK.out]
      simp only [uT, uD, uM, uA, LT.out, LD.out, LM.out, LA.out, if_true, Bool.false_eq_true, if_false]
      simp only [HD.out, HE.out]
      first | exact ⟨rfl, rfl⟩ | exact ⟨rfl, trivial⟩ | exact ⟨trivial, rfl⟩ | trivial
    have O2 : PS w w5 R Y L 6 X := by rw [HX.out, FF.1]; exact O
    have FA := Lib.hid FF.2
    clear O FF ydl
    have O := O2
    clear O2
    have ok : Okay X := by rw [HX.out]; exact ps_okay s (by omega)
    have y0 : w5.cell? ⟨L, 0, none⟩ = some (.bool false) := O.ly.cell 0
    have y1 : w5.cell? ⟨L, 1, none⟩ = some (.bool true) := O.ly.cell 1
    have y2 : w5.cell? ⟨L, 2, none⟩ = some (.bool false) := O.ly.cell 2
    have y3 : w5.cell? ⟨L, 3, none⟩ = some (.bool false) := O.ly.cell 3
    have E0' : w.heap.size ≤ R := O.ne.2.2.2
    by_cases ca : (-1) = (s.size : Int)
    · have nq : ((-1) != (s.size : Int)) = false := by simp [ca]
      have CA := Lib.hid ca
      clear ca
      have LY := sl_loads O.sy ok.dig.len
      go_wp2_with (with_reducible refine wpl_load_in LY ?_ rfl ?_ ?_; (· kernel_rfl); (· kernel_rfl))
      refine (rgood_any X _ ok).mono ?_
      rintro e wg ⟨rfl, G⟩
      replace O := O.below G
      clear G LY y0 y1 y2 y3
      by_cases hc : Can X
      · rw [canB_yes hc]
        have LY := sl_loads O.sy ok.dig.len
        have S := sl_stores O.rs zeros_dig.len ok.dig.len
        have R1 := O.rs.row (slV X)
        have F1 := below_row (B := R) (cs := slV X) O.bel E0'
        generalize wg.setRow R (slV X) = w7 at S R1 F1
        go_wp2_with (first | refine wpl_load LY rfl rfl rfl ?_ | refine wpl_store S rfl rfl rfl rfl rfl ?_)
        exact bodyPost_ret (results_cellTmp Tryz.results92 _ rfl rfl (sl_loads R1 ok.dig.len)) rfl ⟨.inl ⟨FA.out.trans CA.out, by rw [← HX.out]; exact hc, by rw [← HX.out]; rfl⟩, F1⟩
      · rw [canB_no hc]
        have S := zero_stores O.rs
        have R1 := O.rs.row (slV Sp.zero)
        have F1 := below_row (B := R) (cs := slV Sp.zero) O.bel E0'
        generalize wg.setRow R (slV Sp.zero) = w7 at S R1 F1
        go_wp2_with (refine wpl_store S rfl rfl rfl rfl rfl ?_)
        exact bodyPost_ret (results_cellTmp Tryz.results92 _ rfl rfl (sl_loads R1 zeros_dig.len)) rfl ⟨.inr ⟨fun c => hc (by rw [HX.out]; exact c.2), rfl⟩, F1⟩
    · have nq : ((-1) != (s.size : Int)) = true := by simp [ca]
      have S := zero_stores O.rs
      have R1 := O.rs.row (slV Sp.zero)
      have F1 := below_row (B := R) (cs := slV Sp.zero) O.bel E0'
      generalize w5.setRow R (slV Sp.zero) = w7 at S R1 F1
      go_wp2_with (refine wpl_store S rfl rfl rfl rfl rfl ?_)
      exact bodyPost_ret (results_cellTmp Tryz.results92 _ rfl rfl (sl_loads R1 zeros_dig.len)) rfl ⟨.inr ⟨fun c => ca (FA.out.symm.trans c.1), rfl⟩, F1⟩
theorem rparse_any (s : ByteArray) (w : World) (hz : s.size ≤ 1000000) :
    Calls Tryz.prog 92 #[.string s] w fun e w' => ParsePost s w e w' := by
  by_cases h : s.size = 0
  · exact rparse_empty s w hz h
  have hs : 1 ≤ s.size := by omega
  by_cases h0 : bn s 0 = 0
  · exact rparse_low s w hz hs h0
  by_cases h6 : 6 < bn s 0
  · exact rparse_high s w hz hs h6
  have : psK s = 1 ∨ psK s = 2 ∨ psK s = 3 ∨ psK s = 4 ∨ psK s = 5 ∨ psK s = 6 := by unfold psK; omega
  rcases this with e | e | e | e | e | e
  · exact rparse_bind s w hs hz e
  · exact rparse_miss s w hs hz e
  · exact rparse_drop s w hs hz e
  · exact rparse_blob s w hs hz e
  · exact rparse_gone s w hs hz e
  · exact rparse_touch s w hs hz e
end Go.Proofs.YtdmgobffhpgjlaaGreat.Sl
