/-
  The document's Read: what its comparisons say.
  SlipWrites, walked.
  The document's Read.
  Contract of the document's All: the slips of records one behind the other.
-/
import Derived.Test.YtdmgobffhpgjlaaGreatSlF
import Derived.Test.YtdmgobffhpgjlaaGreatSlD
import Derived.Test.YtdmgobffhpgjlaaGreatSlRef2
import Derived.Test.YtdmgobffhpgjlaaGreatSlE
import Derived.Test.YtdmgobffhpgjlaaGreatSlOpen
import Derived.Test.YtdmgobffhpgjlaaGreatSlRef4
import Derived.Test.YtdmgobffhpgjlaaGreatSlAll
import Derived.Great.BuildSlice
section
namespace Go.Proofs.YtdmgobffhpgjlaaGreat.Sl
open Go.RowKit Go.PlainAid Go.Proofs.YtdmgobffhpgjlaaGreat.Cr
set_option linter.unusedVariables false
set_option maxRecDepth 20000
set_option linter.unusedSimpArgs false

theorem len2_is {s : ByteArray} (h : 2 ≤ s.size) : len2 (bl s) = bn s 0 * 256 + bn s 1 := by
  unfold len2
  have h1 := part_snoc (s := s) (k := 0) (i := 0) (by omega)
  have h2 := part_snoc (s := s) (k := 0) (i := 1) (by omega)
  rw [List.drop_zero] at h1 h2
  rw [h2, bN_snoc, h1, bN_snoc]
  simp [bN_nil]
theorem two_bytes {s : ByteArray} (h : 2 ≤ s.size) : bits .or .i64 ((bn s 0 : Int) * 256) (bn s 1 : Int) = (len2 (bl s) : Int) := by
  have b0 := bt_le s 0; have b1 := bt_le s 1; have c0 := bn_bt s 0; have c1 := bn_bt s 1
  have := or_byte (bn s 0 : Int) (bn s 1 : Int) (by omega) (by omega)
  have e1 : wrap64 (bn s 0 : Int) = (bn s 0 : Int) := by unfold wrap64; omega
  have e2 : wrap64 ((bn s 0 : Int) * 256) = (bn s 0 : Int) * 256 := by unfold wrap64; omega
  rw [e1, e2] at this
  rw [this, len2_is h]
  unfold wrap64
  omega
theorem frame_is {l : List Nat} (hl : ∀ x ∈ l, x < 256) (h : ¬ l.length < 6) (h2 : ¬ l.length < 6 + len2 l) :
    recL (bodyOf l) = l.take (6 + len2 l) ↔ (l.drop 2).take 4 = le 4 (mor 0 (l.take 2 ++ bodyOf l)) := by
  have hb : (bodyOf l).length = len2 l := by unfold bodyOf; rw [List.length_take, List.length_drop]; omega
  have h2' : (l.take 2).length = 2 := by rw [List.length_take]; omega
  have e2 : be 2 (len2 l : Int) = l.take 2 := by
    have := be_bN (l := l.take 2) (fun x hx => hl x (List.mem_of_mem_take hx))
    rw [h2'] at this
    exact this
  have e3 : l.take (6 + len2 l) = l.take 2 ++ ((l.drop 2).take 4 ++ bodyOf l) := by
    unfold bodyOf
    rw [show 6 + len2 l = 2 + (4 + len2 l) by omega, List.take_add, List.take_add, List.drop_drop]
  unfold recL
  rw [hb, e2, e3, List.append_assoc]
  constructor
  · intro e
    have e4 := List.append_cancel_left e
    exact (List.append_cancel_right e4).symm
  · intro e
    rw [e]
end Go.Proofs.YtdmgobffhpgjlaaGreat.Sl
end

section
namespace Go.Proofs.YtdmgobffhpgjlaaGreat.Sl
open Go.RowKit Go.PlainAid Go.Proofs.YtdmgobffhpgjlaaGreat.Cr
set_option linter.unusedVariables false
set_option maxRecDepth 20000
set_option linter.unusedSimpArgs false

/-- what the law holds: its slip -/
structure Sw (w0 w : World) (B : Nat) (x : Sp) : Prop where
  box : At w B 39 (slV x)
  bel : Below w0.heap.size w0 w
theorem Sw.below {w0 w w' : World} {B : Nat} {x : Sp} (h : Sw w0 w B x) (hb : Below w.heap.size w w') : Sw w0 w' B x := ⟨h.box.old hb, h.bel.trans (hb.mono h.bel.size)⟩
theorem Sw.drew {w0 w : World} {B : Nat} {x : Sp} (h : Sw w0 w B x) : Sw w0 w.drew B x := h.below ((Below.refl _ _).drew)
end Go.Proofs.YtdmgobffhpgjlaaGreat.Sl
end

section
namespace Go.Proofs.YtdmgobffhpgjlaaGreat.Sl
open Go.RowKit Go.PlainAid Go.Proofs.YtdmgobffhpgjlaaGreat.Cr
set_option linter.unusedVariables false
set_option maxRecDepth 20000
set_option linter.unusedSimpArgs false

set_option maxRecDepth 100000 in
set_option maxHeartbeats 2000000 in
theorem rread_few (s : ByteArray) (w : World) (hz : s.size ≤ 1000000) (h : (bl s).length < 6) :
    Calls Tryz.prog 70 #[.string s] w fun e w' => e = .returned (.tuple #[.agg (slV (RD (bl s)).1), .int .i64 (RD (bl s)).2.1, .int .i64 (RD (bl s)).2.2]) ∧ Below w.heap.size w w' := by
  rw [rd_few h]
  have l6 : (s.size : Int) < 6 := by rw [bl_len] at h; omega
  clear h
  obtain ⟨R, e0, st⟩ := ans_start w
  have E0 := Lib.hid e0; have ST := Lib.hid st
  clear e0 st
  go_enter Tryz.func70, Tryz.ntmps70
  go_upto_region 1 with (fail)
  rw [← E0.out]
  obtain ⟨w1, hw1⟩ : ∃ w1, w1 = w.alloc (.cells #[.int .i64 0, .string ⟨#[]⟩, .string ⟨#[]⟩, .int .u8 0, .int .u8 0, .int .u8 0, .int .u8 0, .int .u8 0, .int .u8 0, .int .u8 0, .int .u8 0, .int .u8 0, .int .u8 0, .int .u8 0, .int .u8 0, .int .u8 0, .int .u8 0, .int .u8 0, .int .u8 0, .int .u8 0, .int .u8 0, .int .u8 0, .int .u8 0, .int .u8 0, .int .u8 0, .int .u8 0, .int .u8 0, .int .u8 0, .int .u8 0, .int .u8 0, .int .u8 0, .int .u8 0, .int .u8 0, .int .u8 0, .int .u8 0, .string ⟨#[]⟩, .int .i64 0, .int .i64 0] 39) := ⟨_, rfl⟩
  obtain ⟨hr, hb⟩ := ST.out _ hw1
  rw [← hw1]
  clear hw1 ST
  have S := zero_stores hr
  have R1 := hr.row (slV Sp.zero)
  have F1 := below_row (B := R) (cs := slV Sp.zero) hb (by have := E0.out; omega)
  generalize w1.setRow R (slV Sp.zero) = w3 at S R1 F1
  go_wp2_with (refine wpl_store S rfl rfl rfl rfl rfl ?_)
  exact bodyPost_ret (results_three Tryz.results70 _ rfl rfl rfl (sl_loads R1 zeros_dig.len)) rfl ⟨rfl, F1⟩
set_option maxRecDepth 100000 in
set_option maxHeartbeats 2000000 in
theorem rread_zero (s : ByteArray) (w : World) (hz : s.size ≤ 1000000) (h : ¬ (bl s).length < 6) (h1 : len2 (bl s) = 0) :
    Calls Tryz.prog 70 #[.string s] w fun e w' => e = .returned (.tuple #[.agg (slV (RD (bl s)).1), .int .i64 (RD (bl s)).2.1, .int .i64 (RD (bl s)).2.2]) ∧ Below w.heap.size w w' := by
  rw [rd_none h (.inl h1)]
  have l6 : ¬ (s.size : Int) < 6 := by rw [bl_len] at h; omega
  have s2 : 2 ≤ s.size := by omega
  have o1 := two_bytes s2
  have g0 : ∀ (h : 0 < s.size), ((s[0]'h).toNat : Int) = (bn s 0 : Int) := fun h => (get_bt s 0 h).trans (bn_bt s 0).symm
  have g1 : ∀ (h : 1 < s.size), ((s[1]'h).toNat : Int) = (bn s 1 : Int) := fun h => (get_bt s 1 h).trans (bn_bt s 1).symm
  have b0 : (bn s 0 : Int) ≤ 255 := by rw [bn_bt]; exact bt_le s 0
  have b1 : (bn s 1 : Int) ≤ 255 := by rw [bn_bt]; exact bt_le s 1
  have i0 : (0 : Int) < (s.size : Int) := by omega
  have i1 : (1 : Int) < (s.size : Int) := by omega
  obtain ⟨n, hn⟩ : ∃ n, len2 (bl s) = n := ⟨_, rfl⟩
  rw [hn] at o1 h1
  have HN := Lib.hid hn
  clear hn
  subst h1

  obtain ⟨R, e0, st⟩ := ans_start w
  have E0 := Lib.hid e0; have ST := Lib.hid st
  clear e0 st
  go_enter Tryz.func70, Tryz.ntmps70
  go_upto_region 1 with (fail)
  rw [← E0.out]
  obtain ⟨w1, hw1⟩ : ∃ w1, w1 = w.alloc (.cells #[.int .i64 0, .string ⟨#[]⟩, .string ⟨#[]⟩, .int .u8 0, .int .u8 0, .int .u8 0, .int .u8 0, .int .u8 0, .int .u8 0, .int .u8 0, .int .u8 0, .int .u8 0, .int .u8 0, .int .u8 0, .int .u8 0, .int .u8 0, .int .u8 0, .int .u8 0, .int .u8 0, .int .u8 0, .int .u8 0, .int .u8 0, .int .u8 0, .int .u8 0, .int .u8 0, .int .u8 0, .int .u8 0, .int .u8 0, .int .u8 0, .int .u8 0, .int .u8 0, .int .u8 0, .int .u8 0, .int .u8 0, .int .u8 0, .string ⟨#[]⟩, .int .i64 0, .int .i64 0] 39) := ⟨_, rfl⟩
  obtain ⟨hr, hb⟩ := ST.out _ hw1
  rw [← hw1]
  clear hw1 ST
  go_upto_region 3 with (fail)
  go_quiet (fail)
  have G := below_drewN (Below.refl w1.heap.size w1) nq
  replace hr := hr.old G
  replace hb := hb.trans (G.mono hb.size)
  clear G
  generalize w1.drewN nq = w2 at hr hb ⊢
  have S := zero_stores hr
  have R1 := hr.row (slV Sp.zero)
  have F1 := below_row (B := R) (cs := slV Sp.zero) hb (by have := E0.out; omega)
  generalize w2.setRow R (slV Sp.zero) = w3 at S R1 F1
  go_wp2_with (refine wpl_store S rfl rfl rfl rfl rfl ?_)
  exact bodyPost_ret (results_three Tryz.results70 _ rfl rfl rfl (sl_loads R1 zeros_dig.len)) rfl ⟨rfl, F1⟩
set_option maxRecDepth 100000 in
set_option maxHeartbeats 2000000 in
theorem rread_big (s : ByteArray) (w : World) (hz : s.size ≤ 1000000) (h : ¬ (bl s).length < 6) (h1 : 1024 < len2 (bl s)) :
    Calls Tryz.prog 70 #[.string s] w fun e w' => e = .returned (.tuple #[.agg (slV (RD (bl s)).1), .int .i64 (RD (bl s)).2.1, .int .i64 (RD (bl s)).2.2]) ∧ Below w.heap.size w w' := by
  rw [rd_none h (.inr h1)]
  have l6 : ¬ (s.size : Int) < 6 := by rw [bl_len] at h; omega
  have s2 : 2 ≤ s.size := by omega
  have o1 := two_bytes s2
  have g0 : ∀ (h : 0 < s.size), ((s[0]'h).toNat : Int) = (bn s 0 : Int) := fun h => (get_bt s 0 h).trans (bn_bt s 0).symm
  have g1 : ∀ (h : 1 < s.size), ((s[1]'h).toNat : Int) = (bn s 1 : Int) := fun h => (get_bt s 1 h).trans (bn_bt s 1).symm
  have b0 : (bn s 0 : Int) ≤ 255 := by rw [bn_bt]; exact bt_le s 0
  have b1 : (bn s 1 : Int) ≤ 255 := by rw [bn_bt]; exact bt_le s 1
  have i0 : (0 : Int) < (s.size : Int) := by omega
  have i1 : (1 : Int) < (s.size : Int) := by omega
  obtain ⟨n, hn⟩ : ∃ n, len2 (bl s) = n := ⟨_, rfl⟩
  rw [hn] at o1 h1
  have HN := Lib.hid hn
  clear hn
  have n0 : ((n : Int) == 0) = false := by rw [beq_eq_false_iff_ne]; omega
  have n1 : (1024 : Int) < (n : Int) := by omega

  obtain ⟨R, e0, st⟩ := ans_start w
  have E0 := Lib.hid e0; have ST := Lib.hid st
  clear e0 st
  go_enter Tryz.func70, Tryz.ntmps70
  go_upto_region 1 with (fail)
  rw [← E0.out]
  obtain ⟨w1, hw1⟩ : ∃ w1, w1 = w.alloc (.cells #[.int .i64 0, .string ⟨#[]⟩, .string ⟨#[]⟩, .int .u8 0, .int .u8 0, .int .u8 0, .int .u8 0, .int .u8 0, .int .u8 0, .int .u8 0, .int .u8 0, .int .u8 0, .int .u8 0, .int .u8 0, .int .u8 0, .int .u8 0, .int .u8 0, .int .u8 0, .int .u8 0, .int .u8 0, .int .u8 0, .int .u8 0, .int .u8 0, .int .u8 0, .int .u8 0, .int .u8 0, .int .u8 0, .int .u8 0, .int .u8 0, .int .u8 0, .int .u8 0, .int .u8 0, .int .u8 0, .int .u8 0, .int .u8 0, .string ⟨#[]⟩, .int .i64 0, .int .i64 0] 39) := ⟨_, rfl⟩
  obtain ⟨hr, hb⟩ := ST.out _ hw1
  rw [← hw1]
  clear hw1 ST
  go_upto_region 3 with (fail)
  go_quiet (fail)
  have G := below_drewN (Below.refl w1.heap.size w1) nq
  replace hr := hr.old G
  replace hb := hb.trans (G.mono hb.size)
  clear G
  generalize w1.drewN nq = w2 at hr hb ⊢
  have S := zero_stores hr
  have R1 := hr.row (slV Sp.zero)
  have F1 := below_row (B := R) (cs := slV Sp.zero) hb (by have := E0.out; omega)
  generalize w2.setRow R (slV Sp.zero) = w3 at S R1 F1
  go_wp2_with (refine wpl_store S rfl rfl rfl rfl rfl ?_)
  exact bodyPost_ret (results_three Tryz.results70 _ rfl rfl rfl (sl_loads R1 zeros_dig.len)) rfl ⟨rfl, F1⟩
set_option maxRecDepth 100000 in
set_option maxHeartbeats 2000000 in
theorem rread_short (s : ByteArray) (w : World) (hz : s.size ≤ 1000000) (h : ¬ (bl s).length < 6) (h1 : ¬ (len2 (bl s) = 0 ∨ 1024 < len2 (bl s))) (h2 : (bl s).length < 6 + len2 (bl s)) :
    Calls Tryz.prog 70 #[.string s] w fun e w' => e = .returned (.tuple #[.agg (slV (RD (bl s)).1), .int .i64 (RD (bl s)).2.1, .int .i64 (RD (bl s)).2.2]) ∧ Below w.heap.size w w' := by
  rw [rd_short h h1 h2]
  have l6 : ¬ (s.size : Int) < 6 := by rw [bl_len] at h; omega
  have s2 : 2 ≤ s.size := by omega
  have o1 := two_bytes s2
  have g0 : ∀ (h : 0 < s.size), ((s[0]'h).toNat : Int) = (bn s 0 : Int) := fun h => (get_bt s 0 h).trans (bn_bt s 0).symm
  have g1 : ∀ (h : 1 < s.size), ((s[1]'h).toNat : Int) = (bn s 1 : Int) := fun h => (get_bt s 1 h).trans (bn_bt s 1).symm
  have b0 : (bn s 0 : Int) ≤ 255 := by rw [bn_bt]; exact bt_le s 0
  have b1 : (bn s 1 : Int) ≤ 255 := by rw [bn_bt]; exact bt_le s 1
  have i0 : (0 : Int) < (s.size : Int) := by omega
  have i1 : (1 : Int) < (s.size : Int) := by omega
  obtain ⟨n, hn⟩ : ∃ n, len2 (bl s) = n := ⟨_, rfl⟩
  rw [hn] at o1 h1 h2
  have HN := Lib.hid hn
  clear hn
  have n0 : ((n : Int) == 0) = false := by rw [beq_eq_false_iff_ne]; omega
  have n1 : ¬ (1024 : Int) < (n : Int) := by omega
  have n2 : (s.size : Int) - 6 < (n : Int) := by rw [bl_len] at h2; omega

  obtain ⟨R, e0, st⟩ := ans_start w
  have E0 := Lib.hid e0; have ST := Lib.hid st
  clear e0 st
  go_enter Tryz.func70, Tryz.ntmps70
  go_upto_region 1 with (fail)
  rw [← E0.out]
  obtain ⟨w1, hw1⟩ : ∃ w1, w1 = w.alloc (.cells #[.int .i64 0, .string ⟨#[]⟩, .string ⟨#[]⟩, .int .u8 0, .int .u8 0, .int .u8 0, .int .u8 0, .int .u8 0, .int .u8 0, .int .u8 0, .int .u8 0, .int .u8 0, .int .u8 0, .int .u8 0, .int .u8 0, .int .u8 0, .int .u8 0, .int .u8 0, .int .u8 0, .int .u8 0, .int .u8 0, .int .u8 0, .int .u8 0, .int .u8 0, .int .u8 0, .int .u8 0, .int .u8 0, .int .u8 0, .int .u8 0, .int .u8 0, .int .u8 0, .int .u8 0, .int .u8 0, .int .u8 0, .int .u8 0, .string ⟨#[]⟩, .int .i64 0, .int .i64 0] 39) := ⟨_, rfl⟩
  obtain ⟨hr, hb⟩ := ST.out _ hw1
  rw [← hw1]
  clear hw1 ST
  go_upto_region 3 with (fail)
  go_quiet (fail)
  have G := below_drewN (Below.refl w1.heap.size w1) nq
  replace hr := hr.old G
  replace hb := hb.trans (G.mono hb.size)
  clear G
  generalize w1.drewN nq = w2 at hr hb ⊢
  have S := zero_stores hr
  have R1 := hr.row (slV Sp.zero)
  have F1 := below_row (B := R) (cs := slV Sp.zero) hb (by have := E0.out; omega)
  generalize w2.setRow R (slV Sp.zero) = w3 at S R1 F1
  go_wp2_with (refine wpl_store S rfl rfl rfl rfl rfl ?_)
  exact bodyPost_ret (results_three Tryz.results70 _ rfl rfl rfl (sl_loads R1 zeros_dig.len)) rfl ⟨rfl, F1⟩
set_option maxRecDepth 100000 in
set_option maxHeartbeats 2000000 in
theorem rread_sum (s : ByteArray) (w : World) (hz : s.size ≤ 1000000) (h : ¬ (bl s).length < 6) (h1 : ¬ (len2 (bl s) = 0 ∨ 1024 < len2 (bl s))) (h2 : ¬ (bl s).length < 6 + len2 (bl s)) (h3 : ¬ ((bl s).drop 2).take 4 = le 4 (mor 0 ((bl s).take 2 ++ bodyOf (bl s)))) :
    Calls Tryz.prog 70 #[.string s] w fun e w' => e = .returned (.tuple #[.agg (slV (RD (bl s)).1), .int .i64 (RD (bl s)).2.1, .int .i64 (RD (bl s)).2.2]) ∧ Below w.heap.size w w' := by
  rw [rd_sum h h1 h2 h3]
  have hfr := frame_is (bl_lt s) h h2
  have hbt := body_text s (by rw [bl_len] at h2; omega)
  have l6 : ¬ (s.size : Int) < 6 := by rw [bl_len] at h; omega
  have s2 : 2 ≤ s.size := by omega
  have o1 := two_bytes s2
  have g0 : ∀ (h : 0 < s.size), ((s[0]'h).toNat : Int) = (bn s 0 : Int) := fun h => (get_bt s 0 h).trans (bn_bt s 0).symm
  have g1 : ∀ (h : 1 < s.size), ((s[1]'h).toNat : Int) = (bn s 1 : Int) := fun h => (get_bt s 1 h).trans (bn_bt s 1).symm
  have b0 : (bn s 0 : Int) ≤ 255 := by rw [bn_bt]; exact bt_le s 0
  have b1 : (bn s 1 : Int) ≤ 255 := by rw [bn_bt]; exact bt_le s 1
  have i0 : (0 : Int) < (s.size : Int) := by omega
  have i1 : (1 : Int) < (s.size : Int) := by omega
  obtain ⟨n, hn⟩ : ∃ n, len2 (bl s) = n := ⟨_, rfl⟩
  rw [hn] at o1 h1 h2 hfr hbt
  have HN := Lib.hid hn
  clear hn
  have n0 : ((n : Int) == 0) = false := by rw [beq_eq_false_iff_ne]; omega
  have n1 : ¬ (1024 : Int) < (n : Int) := by omega
  have n2 : ¬ (s.size : Int) - 6 < (n : Int) := by rw [bl_len] at h2; omega
  have n3 : (6 : Int) + (n : Int) ≤ (s.size : Int) := by omega
  have n4 : (6 : Int) ≤ (6 : Int) + (n : Int) := by omega
  have n5 : ((6 : Int) + (n : Int)).toNat = 6 + n := by omega
  obtain ⟨b, hbe⟩ : ∃ b, b = s.extract 6 (6 + n) := ⟨_, rfl⟩
  obtain ⟨pre, hpe⟩ : ∃ p, p = s.extract 0 (6 + n) := ⟨_, rfl⟩
  have hbz : b.size ≤ 1000000 := by rw [hbe, ByteArray.size_extract]; omega
  have hbs : b.size = n := by rw [hbe, ByteArray.size_extract]; omega
  rw [← hbe] at hbt
  obtain ⟨fb, hfb⟩ : ∃ f, f = strOf (recL (bl b)) := ⟨_, rfl⟩
  have HFB := Lib.hid hfb
  have hbl : bl fb = recL (bl b) := by rw [hfb]; exact bl_strOf (rec_lt (bl_lt b))
  have hpl : bl pre = (bl s).take (6 + n) := by rw [hpe, bl_extract, List.drop_zero]; rfl
  have hq : fb = pre ↔ recL (bodyOf (bl s)) = (bl s).take (6 + n) := by
    rw [← hbt, ← hbl, ← hpl]
    exact ⟨fun c => by rw [c], fun c => bl_inj c⟩
  have e1 : (fb.toList == pre.toList) = false := by
    rw [Bool.eq_false_iff, ne_eq, toList_eq_iff, hq, hfr]; exact h3
  have e2 : (fb.toList != pre.toList) = true := by show (!(fb.toList == pre.toList)) = _; rw [e1]; rfl
  have HB := Lib.hid hbe.symm; have HP := Lib.hid hpe.symm; have HBT := Lib.hid hbt; have HBS := Lib.hid hbs
  clear hbe hpe hfb hbl hpl hq hbt hfr hbs

  obtain ⟨R, e0, st⟩ := ans_start w
  have E0 := Lib.hid e0; have ST := Lib.hid st
  clear e0 st
  go_enter Tryz.func70, Tryz.ntmps70
  go_upto_region 1 with (fail)
  rw [← E0.out]
  obtain ⟨w1, hw1⟩ : ∃ w1, w1 = w.alloc (.cells #[.int .i64 0, .string ⟨#[]⟩, .string ⟨#[]⟩, .int .u8 0, .int .u8 0, .int .u8 0, .int .u8 0, .int .u8 0, .int .u8 0, .int .u8 0, .int .u8 0, .int .u8 0, .int .u8 0, .int .u8 0, .int .u8 0, .int .u8 0, .int .u8 0, .int .u8 0, .int .u8 0, .int .u8 0, .int .u8 0, .int .u8 0, .int .u8 0, .int .u8 0, .int .u8 0, .int .u8 0, .int .u8 0, .int .u8 0, .int .u8 0, .int .u8 0, .int .u8 0, .int .u8 0, .int .u8 0, .int .u8 0, .int .u8 0, .string ⟨#[]⟩, .int .i64 0, .int .i64 0] 39) := ⟨_, rfl⟩
  obtain ⟨hr, hb⟩ := ST.out _ hw1
  rw [← hw1]
  clear hw1 ST
  go_upto_region 3 with (fail)
  go_quiet (fail)
  have G := below_drewN (Below.refl w1.heap.size w1) nq
  replace hr := hr.old G
  replace hb := hb.trans (G.mono hb.size)
  clear G
  generalize w1.drewN nq = w2 at hr hb ⊢
  have J0 : Sw w w2 R Sp.zero := ⟨hr, hb⟩
  clear hr hb
  go_upto_region 9 with (fail)
  rw [HB.out]
  have pe := HP.out
  refine wp_region_held (S := fun z => Sw w z R Sp.zero) (by kernel_rfl) ?_
  change wpAnyH _ _ _ _ _ _ _ _ w2.drew
  replace J0 := J0.drew
  generalize w2.drew = w4 at J0 ⊢
  refine held_take 0 (.string b) rfl (by kernel_rfl) (by kernel_rfl) (by kernel_rfl) (fun _ _ _ h => h) (Or.inl ⟨by rfl, fun x j => by go_simp⟩) J0 (fun K hK => ?_)
  go_simp
  refine hK _ _ ?_
  clear hK K
  refine held_take 2 (.string s) rfl (by kernel_rfl) (by kernel_rfl) (by kernel_rfl) (fun _ _ _ h => h) (Or.inl ⟨by rfl, fun x j => by go_simp⟩) J0 (fun K hK => ?_)
  go_simp
  refine hK _ _ ?_
  clear hK K
  refine held_take 3 (.int .i64 (n : Int)) rfl (by kernel_rfl) (by kernel_rfl) (by kernel_rfl) (fun _ _ _ h => h) (Or.inl ⟨by rfl, fun x j => by go_simp⟩) J0 (fun K hK => ?_)
  go_simp
  refine hK _ _ ?_
  clear hK K
  refine held_take 4 (.int .i64 (6 + (n : Int))) rfl (by kernel_rfl) (by kernel_rfl) (by kernel_rfl) (fun _ _ _ h => h) (Or.inl ⟨by rfl, fun x j => by go_simp; rw [i64_is]; unfold wrap64; omega⟩) J0 (fun K hK => ?_)
  go_simp
  refine hK _ _ ?_
  clear hK K
  refine held_take 5 (.string pre) rfl (by kernel_rfl) (by kernel_rfl) (by kernel_rfl) (fun _ _ _ h => h) (Or.inl ⟨by rfl, fun x j => by go_simp; intro c; omega⟩) J0 (fun K hK => ?_)
  go_simp
  refine hK _ _ ?_
  clear hK K
  refine held_one 1 (by kernel_rfl) (fun K hK => wpOp_in rfl rfl ?_)
  go_simp
  refine (framed_any b _ hbz).mono ?_
  rintro e v1 ⟨rfl, hg⟩
  rw [← HFB.out]
  have J1 := J0.below hg
  refine hK _ _ J1 ?_
  clear hg J0
  clear hK K
  refine held_take 6 (.bool true) rfl (by kernel_rfl) (by kernel_rfl) (by kernel_rfl) (fun _ _ _ h => h) (Or.inl ⟨by rfl, fun x j => by go_simp⟩) J1 (fun K hK => ?_)
  go_simp
  refine hK _ _ ?_
  clear hK K
  refine wpAnyH_done (by kernel_rfl) ?_ _
  clear pe
  have hr := J1.box; have hb := J1.bel
  clear J1
  have S := zero_stores hr
  have R1 := hr.row (slV Sp.zero)
  have F1 := below_row (B := R) (cs := slV Sp.zero) hb (by have := E0.out; omega)
  generalize v1.setRow R (slV Sp.zero) = w3 at S R1 F1
  go_wp2_with (refine wpl_store S rfl rfl rfl rfl rfl ?_)
  exact bodyPost_ret (results_three Tryz.results70 _ rfl rfl rfl (sl_loads R1 zeros_dig.len)) rfl ⟨rfl, F1⟩
set_option maxRecDepth 100000 in
set_option maxHeartbeats 2000000 in
theorem rread_form (s : ByteArray) (w : World) (hz : s.size ≤ 1000000) (h : ¬ (bl s).length < 6) (h1 : ¬ (len2 (bl s) = 0 ∨ 1024 < len2 (bl s))) (h2 : ¬ (bl s).length < 6 + len2 (bl s)) (h3 : ((bl s).drop 2).take 4 = le 4 (mor 0 ((bl s).take 2 ++ bodyOf (bl s)))) (hx : ∀ x, Can x → bodyL x ≠ bodyOf (bl s)) :
    Calls Tryz.prog 70 #[.string s] w fun e w' => e = .returned (.tuple #[.agg (slV (RD (bl s)).1), .int .i64 (RD (bl s)).2.1, .int .i64 (RD (bl s)).2.2]) ∧ Below w.heap.size w w' := by
  rw [rd_form h h1 h2 h3 hx]
  have hfr := frame_is (bl_lt s) h h2
  have hbt := body_text s (by rw [bl_len] at h2; omega)
  have l6 : ¬ (s.size : Int) < 6 := by rw [bl_len] at h; omega
  have s2 : 2 ≤ s.size := by omega
  have o1 := two_bytes s2
  have g0 : ∀ (h : 0 < s.size), ((s[0]'h).toNat : Int) = (bn s 0 : Int) := fun h => (get_bt s 0 h).trans (bn_bt s 0).symm
  have g1 : ∀ (h : 1 < s.size), ((s[1]'h).toNat : Int) = (bn s 1 : Int) := fun h => (get_bt s 1 h).trans (bn_bt s 1).symm
  have b0 : (bn s 0 : Int) ≤ 255 := by rw [bn_bt]; exact bt_le s 0
  have b1 : (bn s 1 : Int) ≤ 255 := by rw [bn_bt]; exact bt_le s 1
  have i0 : (0 : Int) < (s.size : Int) := by omega
  have i1 : (1 : Int) < (s.size : Int) := by omega
  obtain ⟨n, hn⟩ : ∃ n, len2 (bl s) = n := ⟨_, rfl⟩
  rw [hn] at o1 h1 h2 hfr hbt
  have HN := Lib.hid hn
  clear hn
  have n0 : ((n : Int) == 0) = false := by rw [beq_eq_false_iff_ne]; omega
  have n1 : ¬ (1024 : Int) < (n : Int) := by omega
  have n2 : ¬ (s.size : Int) - 6 < (n : Int) := by rw [bl_len] at h2; omega
  have n3 : (6 : Int) + (n : Int) ≤ (s.size : Int) := by omega
  have n4 : (6 : Int) ≤ (6 : Int) + (n : Int) := by omega
  have n5 : ((6 : Int) + (n : Int)).toNat = 6 + n := by omega
  obtain ⟨b, hbe⟩ : ∃ b, b = s.extract 6 (6 + n) := ⟨_, rfl⟩
  obtain ⟨pre, hpe⟩ : ∃ p, p = s.extract 0 (6 + n) := ⟨_, rfl⟩
  have hbz : b.size ≤ 1000000 := by rw [hbe, ByteArray.size_extract]; omega
  have hbs : b.size = n := by rw [hbe, ByteArray.size_extract]; omega
  rw [← hbe] at hbt
  obtain ⟨fb, hfb⟩ : ∃ f, f = strOf (recL (bl b)) := ⟨_, rfl⟩
  have HFB := Lib.hid hfb
  have hbl : bl fb = recL (bl b) := by rw [hfb]; exact bl_strOf (rec_lt (bl_lt b))
  have hpl : bl pre = (bl s).take (6 + n) := by rw [hpe, bl_extract, List.drop_zero]; rfl
  have hq : fb = pre ↔ recL (bodyOf (bl s)) = (bl s).take (6 + n) := by
    rw [← hbt, ← hbl, ← hpl]
    exact ⟨fun c => by rw [c], fun c => bl_inj c⟩
  have e1 : (fb.toList == pre.toList) = true := by
    rw [toList_eq_iff, hq, hfr]; exact h3
  have e2 : (fb.toList != pre.toList) = false := by show (!(fb.toList == pre.toList)) = _; rw [e1]; rfl
  have HB := Lib.hid hbe.symm; have HP := Lib.hid hpe.symm; have HBT := Lib.hid hbt; have HBS := Lib.hid hbs
  clear hbe hpe hfb hbl hpl hq hbt hfr hbs

  obtain ⟨R, e0, st⟩ := ans_start w
  have E0 := Lib.hid e0; have ST := Lib.hid st
  clear e0 st
  go_enter Tryz.func70, Tryz.ntmps70
  go_upto_region 1 with (fail)
  rw [← E0.out]
  obtain ⟨w1, hw1⟩ : ∃ w1, w1 = w.alloc (.cells #[.int .i64 0, .string ⟨#[]⟩, .string ⟨#[]⟩, .int .u8 0, .int .u8 0, .int .u8 0, .int .u8 0, .int .u8 0, .int .u8 0, .int .u8 0, .int .u8 0, .int .u8 0, .int .u8 0, .int .u8 0, .int .u8 0, .int .u8 0, .int .u8 0, .int .u8 0, .int .u8 0, .int .u8 0, .int .u8 0, .int .u8 0, .int .u8 0, .int .u8 0, .int .u8 0, .int .u8 0, .int .u8 0, .int .u8 0, .int .u8 0, .int .u8 0, .int .u8 0, .int .u8 0, .int .u8 0, .int .u8 0, .int .u8 0, .string ⟨#[]⟩, .int .i64 0, .int .i64 0] 39) := ⟨_, rfl⟩
  obtain ⟨hr, hb⟩ := ST.out _ hw1
  rw [← hw1]
  clear hw1 ST
  go_upto_region 3 with (fail)
  go_quiet (fail)
  have G := below_drewN (Below.refl w1.heap.size w1) nq
  replace hr := hr.old G
  replace hb := hb.trans (G.mono hb.size)
  clear G
  generalize w1.drewN nq = w2 at hr hb ⊢
  have J0 : Sw w w2 R Sp.zero := ⟨hr, hb⟩
  clear hr hb
  go_upto_region 9 with (fail)
  rw [HB.out]
  have pe := HP.out
  refine wp_region_held (S := fun z => Sw w z R Sp.zero) (by kernel_rfl) ?_
  change wpAnyH _ _ _ _ _ _ _ _ w2.drew
  replace J0 := J0.drew
  generalize w2.drew = w4 at J0 ⊢
  refine held_take 0 (.string b) rfl (by kernel_rfl) (by kernel_rfl) (by kernel_rfl) (fun _ _ _ h => h) (Or.inl ⟨by rfl, fun x j => by go_simp⟩) J0 (fun K hK => ?_)
  go_simp
  refine hK _ _ ?_
  clear hK K
  refine held_take 2 (.string s) rfl (by kernel_rfl) (by kernel_rfl) (by kernel_rfl) (fun _ _ _ h => h) (Or.inl ⟨by rfl, fun x j => by go_simp⟩) J0 (fun K hK => ?_)
  go_simp
  refine hK _ _ ?_
  clear hK K
  refine held_take 3 (.int .i64 (n : Int)) rfl (by kernel_rfl) (by kernel_rfl) (by kernel_rfl) (fun _ _ _ h => h) (Or.inl ⟨by rfl, fun x j => by go_simp⟩) J0 (fun K hK => ?_)
  go_simp
  refine hK _ _ ?_
  clear hK K
  refine held_take 4 (.int .i64 (6 + (n : Int))) rfl (by kernel_rfl) (by kernel_rfl) (by kernel_rfl) (fun _ _ _ h => h) (Or.inl ⟨by rfl, fun x j => by go_simp; rw [i64_is]; unfold wrap64; omega⟩) J0 (fun K hK => ?_)
  go_simp
  refine hK _ _ ?_
  clear hK K
  refine held_take 5 (.string pre) rfl (by kernel_rfl) (by kernel_rfl) (by kernel_rfl) (fun _ _ _ h => h) (Or.inl ⟨by rfl, fun x j => by go_simp; intro c; omega⟩) J0 (fun K hK => ?_)
  go_simp
  refine hK _ _ ?_
  clear hK K
  refine held_one 1 (by kernel_rfl) (fun K hK => wpOp_in rfl rfl ?_)
  go_simp
  refine (framed_any b _ hbz).mono ?_
  rintro e v1 ⟨rfl, hg⟩
  rw [← HFB.out]
  have J1 := J0.below hg
  refine hK _ _ J1 ?_
  clear hg J0
  clear hK K
  refine held_take 6 (.bool false) rfl (by kernel_rfl) (by kernel_rfl) (by kernel_rfl) (fun _ _ _ h => h) (Or.inl ⟨by rfl, fun x j => by go_simp⟩) J1 (fun K hK => ?_)
  go_simp
  refine hK _ _ ?_
  clear hK K
  refine wpAnyH_done (by kernel_rfl) ?_ _
  clear pe
  have E0' : w.heap.size ≤ R := by have := E0.out; omega
  go_wp2_with fail
  refine (rparse_any b _ hbz).mono ?_
  rintro e v2 ⟨hp, G⟩
  have J2 := J1.below G
  have he : e = .returned (.tuple #[.agg (slV Sp.zero), .bool false]) := by
    rcases hp with ⟨c1, c2, _⟩ | ⟨_, e'⟩
    · exact absurd ((ps_inv (by have := HBS.out; omega) c1).symm.trans HBT.out) (hx _ c2)
    · exact e'
  subst he
  clear hp G J1
  have xd : Sp.zero.dig.length = 32 := zeros_dig.len
  obtain ⟨w6, S6, hy, G6, Z6⟩ := x_keep v2 xd
  have J3 := J2.below G6
  clear G6 Z6 J2
  go_upto_region 12 with (refine wpl_store S6 rfl rfl rfl rfl rfl ?_)
  clear S6
  generalize v2.heap.size = Y at hy ⊢
  have LY := sl_loads hy xd
  have S := sl_stores J3.box zeros_dig.len (y := Sp.zero) xd
  have R1 := J3.box.row (slV Sp.zero)
  have F1 := below_row (B := R) (cs := slV Sp.zero) J3.bel E0'
  generalize w6.setRow R (slV Sp.zero) = w7 at S R1 F1
  go_wp2_with (first | refine wpl_load LY rfl rfl rfl ?_ | refine wpl_store S rfl rfl rfl rfl rfl ?_)
  exact bodyPost_ret (results_three Tryz.results70 _ rfl rfl rfl (sl_loads R1 xd)) rfl ⟨rfl, F1⟩
set_option maxRecDepth 100000 in
set_option maxHeartbeats 2000000 in
theorem rread_yes (s : ByteArray) (w : World) (hz : s.size ≤ 1000000) (h : ¬ (bl s).length < 6) (h1 : ¬ (len2 (bl s) = 0 ∨ 1024 < len2 (bl s))) (h2 : ¬ (bl s).length < 6 + len2 (bl s)) (h3 : ((bl s).drop 2).take 4 = le 4 (mor 0 ((bl s).take 2 ++ bodyOf (bl s)))) {x0 : Sp} (hx : Can x0) (hxb : bodyL x0 = bodyOf (bl s)) :
    Calls Tryz.prog 70 #[.string s] w fun e w' => e = .returned (.tuple #[.agg (slV (RD (bl s)).1), .int .i64 (RD (bl s)).2.1, .int .i64 (RD (bl s)).2.2]) ∧ Below w.heap.size w w' := by
  rw [rd_yes h h1 h2 h3 hx hxb]
  have hfr := frame_is (bl_lt s) h h2
  have hbt := body_text s (by rw [bl_len] at h2; omega)
  have l6 : ¬ (s.size : Int) < 6 := by rw [bl_len] at h; omega
  have s2 : 2 ≤ s.size := by omega
  have o1 := two_bytes s2
  have g0 : ∀ (h : 0 < s.size), ((s[0]'h).toNat : Int) = (bn s 0 : Int) := fun h => (get_bt s 0 h).trans (bn_bt s 0).symm
  have g1 : ∀ (h : 1 < s.size), ((s[1]'h).toNat : Int) = (bn s 1 : Int) := fun h => (get_bt s 1 h).trans (bn_bt s 1).symm
  have b0 : (bn s 0 : Int) ≤ 255 := by rw [bn_bt]; exact bt_le s 0
  have b1 : (bn s 1 : Int) ≤ 255 := by rw [bn_bt]; exact bt_le s 1
  have i0 : (0 : Int) < (s.size : Int) := by omega
  have i1 : (1 : Int) < (s.size : Int) := by omega
  obtain ⟨n, hn⟩ : ∃ n, len2 (bl s) = n := ⟨_, rfl⟩
  rw [hn] at o1 h1 h2 hfr hbt ⊢
  have HN := Lib.hid hn
  clear hn
  have n0 : ((n : Int) == 0) = false := by rw [beq_eq_false_iff_ne]; omega
  have n1 : ¬ (1024 : Int) < (n : Int) := by omega
  have n2 : ¬ (s.size : Int) - 6 < (n : Int) := by rw [bl_len] at h2; omega
  have n3 : (6 : Int) + (n : Int) ≤ (s.size : Int) := by omega
  have n4 : (6 : Int) ≤ (6 : Int) + (n : Int) := by omega
  have n5 : ((6 : Int) + (n : Int)).toNat = 6 + n := by omega
  obtain ⟨b, hbe⟩ : ∃ b, b = s.extract 6 (6 + n) := ⟨_, rfl⟩
  obtain ⟨pre, hpe⟩ : ∃ p, p = s.extract 0 (6 + n) := ⟨_, rfl⟩
  have hbz : b.size ≤ 1000000 := by rw [hbe, ByteArray.size_extract]; omega
  have hbs : b.size = n := by rw [hbe, ByteArray.size_extract]; omega
  rw [← hbe] at hbt
  obtain ⟨fb, hfb⟩ : ∃ f, f = strOf (recL (bl b)) := ⟨_, rfl⟩
  have HFB := Lib.hid hfb
  have hbl : bl fb = recL (bl b) := by rw [hfb]; exact bl_strOf (rec_lt (bl_lt b))
  have hpl : bl pre = (bl s).take (6 + n) := by rw [hpe, bl_extract, List.drop_zero]; rfl
  have hq : fb = pre ↔ recL (bodyOf (bl s)) = (bl s).take (6 + n) := by
    rw [← hbt, ← hbl, ← hpl]
    exact ⟨fun c => by rw [c], fun c => bl_inj c⟩
  have e1 : (fb.toList == pre.toList) = true := by
    rw [toList_eq_iff, hq, hfr]; exact h3
  have e2 : (fb.toList != pre.toList) = false := by show (!(fb.toList == pre.toList)) = _; rw [e1]; rfl
  have HB := Lib.hid hbe.symm; have HP := Lib.hid hpe.symm; have HBT := Lib.hid hbt; have HBS := Lib.hid hbs
  clear hbe hpe hfb hbl hpl hq hbt hfr hbs

  obtain ⟨R, e0, st⟩ := ans_start w
  have E0 := Lib.hid e0; have ST := Lib.hid st
  clear e0 st
  go_enter Tryz.func70, Tryz.ntmps70
  go_upto_region 1 with (fail)
  rw [← E0.out]
  obtain ⟨w1, hw1⟩ : ∃ w1, w1 = w.alloc (.cells #[.int .i64 0, .string ⟨#[]⟩, .string ⟨#[]⟩, .int .u8 0, .int .u8 0, .int .u8 0, .int .u8 0, .int .u8 0, .int .u8 0, .int .u8 0, .int .u8 0, .int .u8 0, .int .u8 0, .int .u8 0, .int .u8 0, .int .u8 0, .int .u8 0, .int .u8 0, .int .u8 0, .int .u8 0, .int .u8 0, .int .u8 0, .int .u8 0, .int .u8 0, .int .u8 0, .int .u8 0, .int .u8 0, .int .u8 0, .int .u8 0, .int .u8 0, .int .u8 0, .int .u8 0, .int .u8 0, .int .u8 0, .int .u8 0, .string ⟨#[]⟩, .int .i64 0, .int .i64 0] 39) := ⟨_, rfl⟩
  obtain ⟨hr, hb⟩ := ST.out _ hw1
  rw [← hw1]
  clear hw1 ST
  go_upto_region 3 with (fail)
  go_quiet (fail)
  have G := below_drewN (Below.refl w1.heap.size w1) nq
  replace hr := hr.old G
  replace hb := hb.trans (G.mono hb.size)
  clear G
  generalize w1.drewN nq = w2 at hr hb ⊢
  have J0 : Sw w w2 R Sp.zero := ⟨hr, hb⟩
  clear hr hb
  go_upto_region 9 with (fail)
  rw [HB.out]
  have pe := HP.out
  refine wp_region_held (S := fun z => Sw w z R Sp.zero) (by kernel_rfl) ?_
  change wpAnyH _ _ _ _ _ _ _ _ w2.drew
  replace J0 := J0.drew
  generalize w2.drew = w4 at J0 ⊢
  refine held_take 0 (.string b) rfl (by kernel_rfl) (by kernel_rfl) (by kernel_rfl) (fun _ _ _ h => h) (Or.inl ⟨by rfl, fun x j => by go_simp⟩) J0 (fun K hK => ?_)
  go_simp
  refine hK _ _ ?_
  clear hK K
  refine held_take 2 (.string s) rfl (by kernel_rfl) (by kernel_rfl) (by kernel_rfl) (fun _ _ _ h => h) (Or.inl ⟨by rfl, fun x j => by go_simp⟩) J0 (fun K hK => ?_)
  go_simp
  refine hK _ _ ?_
  clear hK K
  refine held_take 3 (.int .i64 (n : Int)) rfl (by kernel_rfl) (by kernel_rfl) (by kernel_rfl) (fun _ _ _ h => h) (Or.inl ⟨by rfl, fun x j => by go_simp⟩) J0 (fun K hK => ?_)
  go_simp
  refine hK _ _ ?_
  clear hK K
  refine held_take 4 (.int .i64 (6 + (n : Int))) rfl (by kernel_rfl) (by kernel_rfl) (by kernel_rfl) (fun _ _ _ h => h) (Or.inl ⟨by rfl, fun x j => by go_simp; rw [i64_is]; unfold wrap64; omega⟩) J0 (fun K hK => ?_)
  go_simp
  refine hK _ _ ?_
  clear hK K
  refine held_take 5 (.string pre) rfl (by kernel_rfl) (by kernel_rfl) (by kernel_rfl) (fun _ _ _ h => h) (Or.inl ⟨by rfl, fun x j => by go_simp; intro c; omega⟩) J0 (fun K hK => ?_)
  go_simp
  refine hK _ _ ?_
  clear hK K
  refine held_one 1 (by kernel_rfl) (fun K hK => wpOp_in rfl rfl ?_)
  go_simp
  refine (framed_any b _ hbz).mono ?_
  rintro e v1 ⟨rfl, hg⟩
  rw [← HFB.out]
  have J1 := J0.below hg
  refine hK _ _ J1 ?_
  clear hg J0
  clear hK K
  refine held_take 6 (.bool false) rfl (by kernel_rfl) (by kernel_rfl) (by kernel_rfl) (fun _ _ _ h => h) (Or.inl ⟨by rfl, fun x j => by go_simp⟩) J1 (fun K hK => ?_)
  go_simp
  refine hK _ _ ?_
  clear hK K
  refine wpAnyH_done (by kernel_rfl) ?_ _
  clear pe
  have E0' : w.heap.size ≤ R := by have := E0.out; omega
  go_wp2_with fail
  refine (rparse_any b _ hbz).mono ?_
  rintro e v2 ⟨hp, G⟩
  have J2 := J1.below G
  have he : e = .returned (.tuple #[.agg (slV x0), .bool true]) := by
    have q := ps_app hx (HBT.out.trans hxb.symm)
    rcases hp with ⟨_, _, e'⟩ | ⟨c, _⟩
    · rw [e', q.1]
    · exact absurd ⟨q.2, by rw [q.1]; exact hx⟩ c
  subst he
  clear hp G J1
  have xd : x0.dig.length = 32 := hx.dig.len
  obtain ⟨w6, S6, hy, G6, Z6⟩ := x_keep v2 xd
  have J3 := J2.below G6
  clear G6 Z6 J2
  go_upto_region 12 with (refine wpl_store S6 rfl rfl rfl rfl rfl ?_)
  clear S6
  generalize v2.heap.size = Y at hy ⊢
  have LY := sl_loads hy xd
  have S := sl_stores J3.box zeros_dig.len (y := x0) xd
  have R1 := J3.box.row (slV x0)
  have F1 := below_row (B := R) (cs := slV x0) J3.bel E0'
  generalize w6.setRow R (slV x0) = w7 at S R1 F1
  go_wp2_with (first | refine wpl_load LY rfl rfl rfl ?_ | refine wpl_store S rfl rfl rfl rfl rfl ?_)
  exact bodyPost_ret (results_three Tryz.results70 _ rfl rfl rfl (sl_loads R1 xd)) rfl ⟨by rw [show ((6 + n : Nat) : Int) = 6 + (n : Int) by omega]; rfl, F1⟩
theorem rread_any (s : ByteArray) (w : World) (hz : s.size ≤ 1000000) :
    Calls Tryz.prog 70 #[.string s] w fun e w' => e = .returned (.tuple #[.agg (slV (RD (bl s)).1), .int .i64 (RD (bl s)).2.1, .int .i64 (RD (bl s)).2.2]) ∧ Below w.heap.size w w' := by
  by_cases h : (bl s).length < 6
  · exact rread_few s w hz h
  by_cases h0 : len2 (bl s) = 0
  · exact rread_zero s w hz h h0
  by_cases h0' : 1024 < len2 (bl s)
  · exact rread_big s w hz h h0'
  have h1 : ¬ (len2 (bl s) = 0 ∨ 1024 < len2 (bl s)) := by omega
  by_cases h2 : (bl s).length < 6 + len2 (bl s)
  · exact rread_short s w hz h h1 h2
  by_cases h3 : ((bl s).drop 2).take 4 = le 4 (mor 0 ((bl s).take 2 ++ bodyOf (bl s)))
  · by_cases hx : ∃ x, Can x ∧ bodyL x = bodyOf (bl s)
    · obtain ⟨x, hx, hb⟩ := hx
      exact rread_yes s w hz h h1 h2 h3 hx hb
    · exact rread_form s w hz h h1 h2 h3 (fun x a b => hx ⟨x, a, b⟩)
  · exact rread_sum s w hz h h1 h2 h3
end Go.Proofs.YtdmgobffhpgjlaaGreat.Sl
end

section
namespace Go.Proofs.YtdmgobffhpgjlaaGreat.Sl
open Go.RowKit Go.PlainAid Go.Proofs.YtdmgobffhpgjlaaGreat.Cr
set_option linter.unusedVariables false
set_option maxRecDepth 20000
set_option linter.unusedSimpArgs false

set_option maxHeartbeats 2000000 in
theorem rall_own (s : ByteArray) (w : World) (hs : s.size ≤ 1000000) :
    Calls Tryz.prog 44 #[.string s] w fun e w' => AllOwn (bl s) w e w' := by
  obtain ⟨i0, hi, hz0, hz1, hz2⟩ := info_parts infoSl
  have hbl := bl_len s
  go_enter Tryz.func44, Tryz.ntmps44
  have own0 := World.ownsRow_made (base := w.heap.size) (e := 39) (size := 38) w #[] 0 (Nat.le_refl _) (Nat.zero_le _) rfl
  have bel0 : Below w.heap.size w (w.alloc (.cells #[] 39)) := (Below.refl _ _).alloc (Nat.le_refl _) _
  go_upto_region 2 with (fail)
  generalize w.alloc (.cells #[] 39) = w1 at own0 bel0 ⊢
  go_wp2
  go_loopw [4, 5] (fun v i wr => ∃ (k : Nat) (xs : List Sp), k ≤ s.size ∧ i = .int .i64 k ∧ wr.ownsRow w.heap.size 39 38 v xs.length (slsL xs) ∧ Below w.heap.size w wr ∧ 6 * xs.length ≤ k ∧ AllInv (bl s) k xs) (fun _ i _ => s.size - (intOf i).toNat)
  case atStart => exact ⟨0, [], Nat.zero_le _, rfl, own0, bel0, Nat.le_refl _, allInv_start _⟩
  case round =>
    clear own0 bel0
    obtain ⟨k, xs, hk, rfl, own, bel, h6, INV⟩ := hrel
    have l1 : (k : Int) ≤ (s.size : Int) := by omega
    have l2 : (0 : Int) ≤ (k : Int) := by omega
    have hd : bl (s.extract k s.size) = (bl s).drop k := by
      rw [bl_extract]
      exact List.take_of_length_le (by rw [List.length_drop]; omega)
    have hz : (s.extract k s.size).size ≤ 1000000 := by rw [ByteArray.size_extract]; omega
    go_wp2_with fail
    refine (rread_any (s.extract k s.size) _ hz).mono ?_
    rintro e w2 ⟨rfl, G⟩
    rw [hd]
    clear hd hz
    have own2 := owns_below own G
    have bel2 := bel.trans (G.mono bel.size)
    clear own G bel
    have zdl : (RD ((bl s).drop k)).1.dig.length = 32 := rd_dig _
    obtain ⟨w3, S3, X3, G3, Z3⟩ := x_keep w2 zdl
    have own3 := owns_below own2 G3
    have bel3 := bel2.trans (G3.mono bel2.size)
    have LX := sl_loads X3 zdl
    have hN := bel3.size
    clear own2 bel2 G3 Z3
    by_cases c : (RD ((bl s).drop k)).2.2 = 0
    · obtain ⟨can, n, hn, hn6, hnl⟩ := rd_ok c
      rw [List.length_drop, hbl] at hnl
      have STEP := Lib.hid (INV.step c)
      rw [hn] at STEP ⊢
      rw [c]
      clear c
      have CAN := Lib.hid can
      clear can
      generalize hx : (RD ((bl s).drop k)).1 = x at S3 X3 LX STEP CAN zdl ⊢
      clear hx hn
      go_upto_region 6 with (refine wpl_store S3 rfl rfl rfl rfl rfl ?_)
      clear S3
      generalize w2.heap.size = X at X3 LX ⊢
      go_upto_region 7 with (first | refine wpl_load LX rfl rfl rfl ?_ | refine wpl_build (slV_size zdl) rfl rfl rfl ?_ | (at_builtin; refine wpList_append_own _ rfl _ _ 29 rfl w.heap.size 39 i0 (.agg #[.int .i64 0, .string ⟨#[]⟩, .string ⟨#[]⟩, .int .u8 0, .int .u8 0, .int .u8 0, .int .u8 0, .int .u8 0, .int .u8 0, .int .u8 0, .int .u8 0, .int .u8 0, .int .u8 0, .int .u8 0, .int .u8 0, .int .u8 0, .int .u8 0, .int .u8 0, .int .u8 0, .int .u8 0, .int .u8 0, .int .u8 0, .int .u8 0, .int .u8 0, .int .u8 0, .int .u8 0, .int .u8 0, .int .u8 0, .int .u8 0, .int .u8 0, .int .u8 0, .int .u8 0, .int .u8 0, .int .u8 0, .int .u8 0, .string ⟨#[]⟩, .int .i64 0, .int .i64 0]) 38 104 Tryz.underlying29 hi hz0 hz1 hz2 rfl (by decide) _ _ _ rfl (own3.alloc _) ⟨w3.heap.size, 0, none⟩ 1 1 (slL x) rfl ?c0 ?c1 (slL_one x) ?c3 ?c4 ?c5 ?_))
      case c0 => rw [slL_len zdl]
      case c1 => exact new_cells w3 x
      case c3 => unfold maxLen; omega
      case c4 => omega
      case c5 => simp; omega
      intro v' w4 own4 hgrow _
      have own5 : w4.ownsRow w.heap.size 39 38 v' (xs ++ [x]).length (slsL (xs ++ [x])) := by
        rw [slsL_snoc, List.length_append]
        exact own4
      have bel5 := (bel3.alloc bel3.size (.cells (slV x) 39)).grown hgrow (by simp; omega) (fun j hj => (own3.lt j hj).1)
      clear own4 own3 bel3 hgrow LX X3
      go_wp2
      go_roundw
      case rel => exact ⟨k + n, xs ++ [x], by omega, by go_num, own5, bel5, by rw [List.length_append]; simp; omega, STEP.out n rfl⟩
      case measure => simp [intOf]; omega
    · obtain ⟨z1, z2, z3⟩ := rd_err c
      have FIN := Lib.hid (INV.stop c)
      have hne : ((RD ((bl s).drop k)).2.2 != 0) = true := by simpa using c
      have hne2 : ¬ (RD ((bl s).drop k)).2.2 = 0 := c
      clear z1 z2 z3 c
      generalize (RD ((bl s).drop k)).2.2 = er at hne hne2 ⊢
      generalize (RD ((bl s).drop k)).2.1 = nn at ⊢
      generalize (RD ((bl s).drop k)).1 = x at S3 X3 LX ⊢
      go_wp2_with (refine wpl_store S3 rfl rfl rfl rfl rfl ?_)
      go_ret2
      exact ⟨xs, k, _, rfl, own3, FIN.out.2, FIN.out.1, bel3⟩
end Go.Proofs.YtdmgobffhpgjlaaGreat.Sl
end
