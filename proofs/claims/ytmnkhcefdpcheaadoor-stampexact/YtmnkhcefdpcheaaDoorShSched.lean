/-
  Contract of sha.schedule: the 64 numbers of a block of 64 bytes; nothing that was there is changed.
-/
import Derived.Test.YtmnkhcefdpcheaaDoorShMem
import Derived.StillTailTactics
import Derived.Deep.LoopGhost
namespace Go.Proofs.YtmnkhcefdpcheaaDoor.Sh
open Go.RowKit
set_option linter.unusedVariables false

/-- the three blocks of the call: the bytes, the result's, the numbers -/
structure S3 (w wr : World) (b L : List Nat) : Prop where
  bytes : Blk wr w.heap.size .u8 58 b
  res : Blk wr (w.heap.size + 1) .u32 65 (List.replicate 64 0)
  nums : Blk wr (w.heap.size + 1 + 1) .u32 65 L
  bel : Below w.heap.size w wr
theorem zeros64 : (vals .u32 (List.replicate 64 0)).toArray = #[.int .u32 0, .int .u32 0, .int .u32 0, .int .u32 0, .int .u32 0, .int .u32 0, .int .u32 0, .int .u32 0, .int .u32 0, .int .u32 0, .int .u32 0, .int .u32 0, .int .u32 0, .int .u32 0, .int .u32 0, .int .u32 0, .int .u32 0, .int .u32 0, .int .u32 0, .int .u32 0, .int .u32 0, .int .u32 0, .int .u32 0, .int .u32 0, .int .u32 0, .int .u32 0, .int .u32 0, .int .u32 0, .int .u32 0, .int .u32 0, .int .u32 0, .int .u32 0, .int .u32 0, .int .u32 0, .int .u32 0, .int .u32 0, .int .u32 0, .int .u32 0, .int .u32 0, .int .u32 0, .int .u32 0, .int .u32 0, .int .u32 0, .int .u32 0, .int .u32 0, .int .u32 0, .int .u32 0, .int .u32 0, .int .u32 0, .int .u32 0, .int .u32 0, .int .u32 0, .int .u32 0, .int .u32 0, .int .u32 0, .int .u32 0, .int .u32 0, .int .u32 0, .int .u32 0, .int .u32 0, .int .u32 0, .int .u32 0, .int .u32 0, .int .u32 0] := by rfl
theorem s3_init (w : World) (b : List Nat) : S3 w (((w.alloc (.cells (vals .u8 b).toArray 58)).alloc (.cells #[.int .u32 0, .int .u32 0, .int .u32 0, .int .u32 0, .int .u32 0, .int .u32 0, .int .u32 0, .int .u32 0, .int .u32 0, .int .u32 0, .int .u32 0, .int .u32 0, .int .u32 0, .int .u32 0, .int .u32 0, .int .u32 0, .int .u32 0, .int .u32 0, .int .u32 0, .int .u32 0, .int .u32 0, .int .u32 0, .int .u32 0, .int .u32 0, .int .u32 0, .int .u32 0, .int .u32 0, .int .u32 0, .int .u32 0, .int .u32 0, .int .u32 0, .int .u32 0, .int .u32 0, .int .u32 0, .int .u32 0, .int .u32 0, .int .u32 0, .int .u32 0, .int .u32 0, .int .u32 0, .int .u32 0, .int .u32 0, .int .u32 0, .int .u32 0, .int .u32 0, .int .u32 0, .int .u32 0, .int .u32 0, .int .u32 0, .int .u32 0, .int .u32 0, .int .u32 0, .int .u32 0, .int .u32 0, .int .u32 0, .int .u32 0, .int .u32 0, .int .u32 0, .int .u32 0, .int .u32 0, .int .u32 0, .int .u32 0, .int .u32 0, .int .u32 0] 65)).alloc (.cells #[.int .u32 0, .int .u32 0, .int .u32 0, .int .u32 0, .int .u32 0, .int .u32 0, .int .u32 0, .int .u32 0, .int .u32 0, .int .u32 0, .int .u32 0, .int .u32 0, .int .u32 0, .int .u32 0, .int .u32 0, .int .u32 0, .int .u32 0, .int .u32 0, .int .u32 0, .int .u32 0, .int .u32 0, .int .u32 0, .int .u32 0, .int .u32 0, .int .u32 0, .int .u32 0, .int .u32 0, .int .u32 0, .int .u32 0, .int .u32 0, .int .u32 0, .int .u32 0, .int .u32 0, .int .u32 0, .int .u32 0, .int .u32 0, .int .u32 0, .int .u32 0, .int .u32 0, .int .u32 0, .int .u32 0, .int .u32 0, .int .u32 0, .int .u32 0, .int .u32 0, .int .u32 0, .int .u32 0, .int .u32 0, .int .u32 0, .int .u32 0, .int .u32 0, .int .u32 0, .int .u32 0, .int .u32 0, .int .u32 0, .int .u32 0, .int .u32 0, .int .u32 0, .int .u32 0, .int .u32 0, .int .u32 0, .int .u32 0, .int .u32 0, .int .u32 0] 65)) b (schedTo b 0) := by
  rw [← zeros64]
  refine ⟨((Blk.new w _ _ _).alloc _).alloc _, ?_, ?_, ((((Below.refl _ _).alloc (Nat.le_refl _) _).alloc (by simp) _).alloc (by simp; omega) _)⟩
  · have := (Blk.new (w.alloc (.cells (vals .u8 b).toArray 58)) .u32 65 (List.replicate 64 0)).alloc (.cells (vals .u32 (List.replicate 64 0)).toArray 65)
    simpa using this
  · have := Blk.new ((w.alloc (.cells (vals .u8 b).toArray 58)).alloc (.cells (vals .u32 (List.replicate 64 0)).toArray 65)) .u32 65 (List.replicate 64 0)
    simpa [sched_zero] using this
theorem S3.step {w wr : World} {b L : List Nat} (h : S3 w wr b L) (j v : Nat) : S3 w (wr.setCell ⟨w.heap.size + 1 + 1, j, none⟩ (.int .u32 (v : Int))) b (L.set j v) :=
  ⟨h.bytes.other (by simp; omega) _, h.res.other (by simp) _, h.nums.set j v, h.bel.setCell (by simp; omega) _⟩
theorem S3.drew {w wr : World} {b L : List Nat} (h : S3 w wr b L) : S3 w wr.drew b L := ⟨h.bytes.drew, h.res.drew, h.nums.drew, h.bel.drew⟩

theorem word_num {b : List Nat} (h : Lt 256 b) (t : Nat) : bits .or .u32 (bits .or .u32 (bits .or .u32 (((at0 b (4 * t) : Nat) : Int) % 4294967296 * 16777216 % 4294967296) (((at0 b (4 * t + 1) : Nat) : Int) % 4294967296 * 65536 % 4294967296)) (((at0 b (4 * t + 2) : Nat) : Int) % 4294967296 * 256 % 4294967296)) (((at0 b (4 * t + 3) : Nat) : Int) % 4294967296) = ((word b t : Nat) : Int) := by
  have h0 := h (4 * t)
  have h1 := h (4 * t + 1)
  have h2 := h (4 * t + 2)
  have h3 := h (4 * t + 3)
  unfold word
  generalize at0 b (4 * t) = x0 at h0 ⊢
  generalize at0 b (4 * t + 1) = x1 at h1 ⊢
  generalize at0 b (4 * t + 2) = x2 at h2 ⊢
  generalize at0 b (4 * t + 3) = x3 at h3 ⊢
  rw [show (x0 : Int) % 4294967296 * 16777216 % 4294967296 = ((x0 * 16777216 % 4294967296 : Nat) : Int) by omega, show (x1 : Int) % 4294967296 * 65536 % 4294967296 = ((x1 * 65536 % 4294967296 : Nat) : Int) by omega,
    show (x2 : Int) % 4294967296 * 256 % 4294967296 = ((x2 * 256 % 4294967296 : Nat) : Int) by omega, show (x3 : Int) % 4294967296 = ((x3 : Nat) : Int) by omega]
  have m0 : x0 * 16777216 % 4294967296 < 4294967296 := Nat.mod_lt _ (by decide)
  have m1 : x1 * 65536 % 4294967296 < 4294967296 := Nat.mod_lt _ (by decide)
  have m2 : x2 * 256 % 4294967296 < 4294967296 := Nat.mod_lt _ (by decide)
  rw [wor m0 m1, wor (or_lt m0 m1) m2, wor (or_lt (or_lt m0 m1) m2) (by omega)]
theorem sums4 (a b c d : Nat) : ((a : Int) + b + c + d) % 4294967296 = ((add32 (add32 (add32 a b) c) d : Nat) : Int) := by
  unfold add32; omega
theorem later_num (L : List Nat) (t : Nat) : (((ss1 (at0 L (t - 2)) : Nat) : Int) + (at0 L (t - 7) : Nat) + (ss0 (at0 L (t - 15)) : Nat) + (at0 L (t - 16) : Nat)) % 4294967296 = ((later L t : Nat) : Int) := by
  unfold later; exact sums4 _ _ _ _
set_option maxHeartbeats 1600000 in
theorem sched_any (b : List Nat) (w : World) (hb : Lt 256 b) (hl : b.length = 64) :
    Calls Tryd.prog 41 #[.agg (vals .u8 b).toArray] w fun e w' => e = .returned (.agg (vals .u32 (schedTo b 64)).toArray) ∧ Below w.heap.size w w' := by
  have HB := Lib.hid hb
  have HL := Lib.hid hl
  clear hb hl
  go_enter Tryd.func41, Tryd.ntmps41
  go_wp2
  go_loopw [7] (fun i wr => ∃ t : Nat, t ≤ 16 ∧ i = .int .i64 t ∧ S3 w wr b (schedTo b t)) (fun i _ => 16 - (intOf i).toNat)
  case atStart => exact ⟨0, Nat.zero_le _, rfl, s3_init w b⟩
  case round =>
    obtain ⟨t, ht, rfl, hS⟩ := hrel
    by_cases hlt : t < 16
    · have c0 := hS.bytes.cell (j := 4 * t) (by rw [HL.out]; omega)
      have c1 := hS.bytes.cell (j := 4 * t + 1) (by rw [HL.out]; omega)
      have c2 := hS.bytes.cell (j := 4 * t + 2) (by rw [HL.out]; omega)
      have c3 := hS.bytes.cell (j := 4 * t + 3) (by rw [HL.out]; omega)
      have c4 := hS.nums.cell (j := t) (by rw [sched_len]; omega)
      have f4 := hS.nums.frozen t
      obtain ⟨a0, b0, d0⟩ := ix (x := 4 * (t : Int)) (n := 4 * t) (by omega) (by omega)
      obtain ⟨a1, b1, d1⟩ := ix (x := 4 * (t : Int) + 1) (n := 4 * t + 1) (by omega) (by omega)
      obtain ⟨a2, b2, d2⟩ := ix (x := 4 * (t : Int) + 2) (n := 4 * t + 2) (by omega) (by omega)
      obtain ⟨a3, b3, d3⟩ := ix (x := 4 * (t : Int) + 3) (n := 4 * t + 3) (by omega) (by omega)
      have l0 : 4 * (t : Int) < 64 := by omega
      have l1 : 4 * (t : Int) + 1 < 64 := by omega
      have l2 : 4 * (t : Int) + 2 < 64 := by omega
      have l3 : 4 * (t : Int) + 3 < 64 := by omega
      have l4 : (t : Int) < 64 := by omega
      go_wp2
      go_still_tail 27, (by kernel_rfl)
      go_wp2
      go_roundw
      case rel =>
        refine ⟨t + 1, by omega, by go_num, ?_⟩
        rw [word_num HB.out t]
        have := (hS.step t (word b t)).drew
        rw [sched_early b t hlt]
        exact this
      case measure => simp [intOf]; omega
    · obtain rfl : t = 16 := by omega
      clear hlt ht
      rw [show ((16 : Nat) : Int) = 16 from rfl]
      go_wp2
      go_loopw [6] (fun i wr => ∃ t : Nat, 16 ≤ t ∧ t ≤ 64 ∧ i = .int .i64 t ∧ S3 w wr b (schedTo b t)) (fun i _ => 64 - (intOf i).toNat)
      case atStart => exact ⟨16, Nat.le_refl _, by omega, rfl, hS⟩
      case round =>
        clear hS
        obtain ⟨t, ht0, ht, rfl, hS⟩ := hrel
        by_cases hlt : t < 64
        · have c0 := hS.nums.cell (j := t - 2) (by rw [sched_len]; omega)
          have c1 := hS.nums.cell (j := t - 7) (by rw [sched_len]; omega)
          have c2 := hS.nums.cell (j := t - 15) (by rw [sched_len]; omega)
          have c3 := hS.nums.cell (j := t - 16) (by rw [sched_len]; omega)
          have c4 := hS.nums.cell (j := t) (by rw [sched_len]; omega)
          have f4 := hS.nums.frozen t
          obtain ⟨a0, b0, d0⟩ := ix (x := (t : Int) - 2) (n := t - 2) (by omega) (by omega)
          obtain ⟨a1, b1, d1⟩ := ix (x := (t : Int) - 7) (n := t - 7) (by omega) (by omega)
          obtain ⟨a2, b2, d2⟩ := ix (x := (t : Int) - 15) (n := t - 15) (by omega) (by omega)
          obtain ⟨a3, b3, d3⟩ := ix (x := (t : Int) - 16) (n := t - 16) (by omega) (by omega)
          have l0 : (t : Int) - 2 < 64 := by omega
          have l1 : (t : Int) - 7 < 64 := by omega
          have l2 : (t : Int) - 15 < 64 := by omega
          have l3 : (t : Int) - 16 < 64 := by omega
          have l4 : (t : Int) < 64 := by omega
          have lt := sched_lt HB.out t
          have g0 : (2 : Int) ≤ (t : Int) := by omega
          have g1 : (7 : Int) ≤ (t : Int) := by omega
          have g2 : (15 : Int) ≤ (t : Int) := by omega
          have g3 : (16 : Int) ≤ (t : Int) := by omega
          go_wp2
          go_still_tail 23, (by kernel_rfl)
          still_call (flip (ss1_any _ _ (lt _)))
          repeat still_step
          still_call (flip (ss0_any _ _ (lt _)))
          repeat still_step
          refine wpStill_nil ?_
          go_wp2
          go_roundw
          case rel =>
            refine ⟨t + 1, by omega, by omega, by go_num, ?_⟩
            rw [later_num, sched_late b t (by omega)]
            exact (hS.step t (later (schedTo b t) t)).drew
          case measure => simp [intOf]; omega
        · obtain rfl : t = 64 := by omega
          clear hlt ht ht0
          have H1 := hS.nums.loads (P := Tryd.prog) (ty := 65) (by kernel_rfl) (by rw [sched_len]; kernel_rfl)
          have H2 := hS.res.stores (P := Tryd.prog) (ty := 65) (l' := schedTo b 64) (by rw [sched_len]; kernel_rfl) (by rw [sched_len]; rfl)
          go_wp2_with (first | refine wpl_load H1 rfl rfl rfl ?_ | refine wpl_store H2 rfl rfl rfl rfl rfl ?_)
          exact bodyPost_ret (results_cell_row Tryd.results41 _ _ (w.heap.size + 1) 65 (vals .u32 (schedTo b 64)).toArray (0, 0) _ rfl (hS.res.row _).heap Tryd.underlying65 rfl (by simp only [List.size_toArray, vals_len, sched_len]; kernel_rfl)) rfl ⟨rfl, below_row hS.bel (by omega)⟩
end Go.Proofs.YtmnkhcefdpcheaaDoor.Sh
