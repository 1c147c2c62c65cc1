/-
  Contract of the document's Of: the digest of bytes, block by block.
-/
import Derived.Test.YtmnkhcefdpcheaaDoorShPad2
import Derived.Test.YtmnkhcefdpcheaaDoorShSum
namespace Go.Proofs.YtmnkhcefdpcheaaDoor.Sh
open Go.RowKit Go.PlainAid
set_option linter.unusedVariables false
set_option linter.unusedSimpArgs false

def outTo (st : List Nat) : Nat → List Nat
  | 0 => List.replicate 32 0
  | i + 1 => (outTo st i).set i (at0 st (i / 4) / 2 ^ (24 - 8 * (i % 4)) % 256)
theorem out_len (st : List Nat) : ∀ i, (outTo st i).length = 32
  | 0 => by simp [outTo]
  | i + 1 => by simp [outTo, out_len st i]
theorem out_succ (st : List Nat) (i : Nat) : outTo st (i + 1) = (outTo st i).set i (at0 st (i / 4) / 2 ^ (24 - 8 * (i % 4)) % 256) := rfl
theorem out_dig (st : List Nat) : ∀ t, outTo st (4 * t) = digTo st t
  | 0 => by rw [dig_zero]; rfl
  | t + 1 => by
    rw [show 4 * (t + 1) = 4 * t + 1 + 1 + 1 + 1 by omega, out_succ, out_succ, out_succ, out_succ, out_dig st t, dig_succ]
    rw [show 4 * t / 4 = t by omega, show (4 * t + 1) / 4 = t by omega, show (4 * t + 1 + 1) / 4 = t by omega, show (4 * t + 1 + 1 + 1) / 4 = t by omega,
      show 4 * t % 4 = 0 by omega, show (4 * t + 1) % 4 = 1 by omega, show (4 * t + 1 + 1) % 4 = 2 by omega, show (4 * t + 1 + 1 + 1) % 4 = 3 by omega]
    simp
attribute [irreducible] outTo

structure O3 (w wr : World) (st : List Nat) : Prop where
  res : Blk wr w.heap.size .u8 22 (List.replicate 32 0)
  st : Blk wr (w.heap.size + 1) .u32 53 st
  bel : Below w.heap.size w wr
theorem o3_first (w : World) : ∃ X, Stores Tryd.prog ((w.alloc (.cells #[.int .u8 0, .int .u8 0, .int .u8 0, .int .u8 0, .int .u8 0, .int .u8 0, .int .u8 0, .int .u8 0, .int .u8 0, .int .u8 0, .int .u8 0, .int .u8 0, .int .u8 0, .int .u8 0, .int .u8 0, .int .u8 0, .int .u8 0, .int .u8 0, .int .u8 0, .int .u8 0, .int .u8 0, .int .u8 0, .int .u8 0, .int .u8 0, .int .u8 0, .int .u8 0, .int .u8 0, .int .u8 0, .int .u8 0, .int .u8 0, .int .u8 0, .int .u8 0] 22)).alloc (.cells #[.int .u32 0, .int .u32 0, .int .u32 0, .int .u32 0, .int .u32 0, .int .u32 0, .int .u32 0, .int .u32 0] 53)) 53 (w.heap.size + 1) 0 (vals .u32 start).toArray X ∧ O3 w X start := by
  rw [← zeros32, ← zeros8]
  have b0 := (Blk.new w .u8 22 (List.replicate 32 0)).alloc (.cells (vals .u32 (List.replicate 8 0)).toArray 53)
  have b1 := Blk.new (w.alloc (.cells (vals .u8 (List.replicate 32 0)).toArray 22)) .u32 53 (List.replicate 8 0)
  rw [show (w.alloc (.cells (vals .u8 (List.replicate 32 0)).toArray 22)).heap.size = w.heap.size + 1 by simp] at b1
  exact ⟨_, b1.stores (by kernel_rfl) (by simp; rfl), b0.rowOther (by omega), b1.row _, below_row (((Below.refl _ _).alloc (Nat.le_refl _) _).alloc (by simp) _) (by omega)⟩
theorem O3.below {w wr w' : World} {st : List Nat} (h : O3 w wr st) (hb : Below wr.heap.size wr w') : O3 w w' st := ⟨h.res.below hb h.res.lt, h.st.below hb h.st.lt, h.bel.trans (hb.mono h.bel.size)⟩
theorem O3.drew {w wr : World} {st : List Nat} (h : O3 w wr st) : O3 w wr.drew st := h.below ((Below.refl _ _).drew)
theorem O3.row {w wr : World} {st : List Nat} (h : O3 w wr st) (st' : List Nat) : O3 w (wr.setRow (w.heap.size + 1) (vals .u32 st').toArray) st' := ⟨h.res.rowOther (by omega), h.st.row _, below_row h.bel (by omega)⟩

structure O4 (w wr : World) (V : Nat) (st d : List Nat) : Prop where
  o : O3 w wr st
  out : Blk wr V .u8 22 d
  gt : w.heap.size + 1 < V
theorem O4.step {w wr : World} {V : Nat} {st d : List Nat} (h : O4 w wr V st d) (j v : Nat) : O4 w (wr.setCell ⟨V, j, none⟩ (.int .u8 (v : Int))) V st (d.set j v) :=
  ⟨⟨h.o.res.other (by have := h.gt; simp; omega) _, h.o.st.other (by have := h.gt; simp; omega) _, h.o.bel.setCell (by have := h.gt; simp; omega) _⟩, h.out.set j v, h.gt⟩
theorem o4_init {w wr : World} {st : List Nat} (h : O3 w wr st) : ∃ X, Stores Tryd.prog (wr.alloc (.cells #[.int .u8 0, .int .u8 0, .int .u8 0, .int .u8 0, .int .u8 0, .int .u8 0, .int .u8 0, .int .u8 0, .int .u8 0, .int .u8 0, .int .u8 0, .int .u8 0, .int .u8 0, .int .u8 0, .int .u8 0, .int .u8 0, .int .u8 0, .int .u8 0, .int .u8 0, .int .u8 0, .int .u8 0, .int .u8 0, .int .u8 0, .int .u8 0, .int .u8 0, .int .u8 0, .int .u8 0, .int .u8 0, .int .u8 0, .int .u8 0, .int .u8 0, .int .u8 0] 22)) 22 wr.heap.size 0 (vals .u8 (List.replicate 32 0)).toArray X ∧ O4 w X wr.heap.size st (outTo st 0) := by
  rw [← zeros32]
  have n := Blk.new wr .u8 22 (List.replicate 32 0)
  have g : w.heap.size + 1 < wr.heap.size := h.st.lt
  have e : outTo st 0 = List.replicate 32 0 := by unfold outTo; rfl
  rw [e]
  exact ⟨_, n.stores (by rw [zeros32n]; kernel_rfl) rfl, ⟨(h.res.alloc _).rowOther (by omega), (h.st.alloc _).rowOther (by omega), below_row (h.bel.alloc h.bel.size _) (by omega)⟩, n.row _, g⟩
theorem ix2 {x : Int} {n : Nat} (h : x = (n : Int)) (hn : n < 100000000) : IntKind.i64.wrap x = x ∧ 0 ≤ x ∧ x.toNat = n := by
  subst h
  exact ⟨IntWalk.i64_in _ (by omega), by omega, by omega⟩

theorem bl_sub2 (s : ByteArray) (i d : Nat) : bl (s.extract i (i + d)) = ((bl s).drop i).take d := by
  unfold bl
  rw [ByteArray.data_extract, Array.toList_extract, List.map_take, List.map_drop, Nat.add_sub_cancel_left]

set_option maxRecDepth 100000 in
set_option maxHeartbeats 4000000 in
theorem rof_any (s : ByteArray) (w : World) (hsz : s.size ≤ 1048576) :
    Calls Tryd.prog 23 #[.string s] w fun e w' => e = .returned (.agg (vals .u8 (digTo (hs (padL (bl s)) ((padL (bl s)).length / 64)) 8)).toArray) ∧ Below w.heap.size w w' := by
  obtain ⟨X, S1, M⟩ := o3_first w
  go_enter Tryd.func23, Tryd.ntmps23
  go_upto_region 2 with (first | refine wpList_buildTo rfl 53 _ rfl (some 8) rfl (vals .u32 start).toArray (by kernel_rfl) ?_ | refine wpl_store S1 rfl rfl rfl rfl rfl ?_)
  clear S1
  go_wp2_with fail
  refine (padded_any s _ hsz).mono ?_
  rintro e w1 ⟨rfl, hb⟩
  have M1 := M.below hb
  clear M hb
  have hp : (padL (bl s)).length ≤ 1048576 + 128 := by
    have := Nat.mod_lt (119 - s.size % 64) (show 0 < 64 by decide)
    unfold padL; rw [List.length_append, padF_len, sizeB_len, bl_len]; unfold padZ; omega
  have PLT := Lib.hid (padL_lt (bl_lt s))
  have HPP := Lib.hid (Eq.refl (padL (bl s)))
  generalize hpp : padL (bl s) = p at hp PLT HPP ⊢
  have HPE := Lib.hid hpp
  clear hpp HPP
  have PS := Lib.hid (strOf_size p)
  have PB := Lib.hid (bl_strOf PLT.out)
  have q1 : (strOf p).size ≤ 1048576 + 128 := by rw [PS.out]; exact hp
  generalize strOf p = ps at PS PB q1 ⊢
  go_wp2
  go_loopw [5] (fun i wr => ∃ k : Nat, i = .int .i64 (64 * (k : Int)) ∧ 64 * k ≤ ps.size ∧ O3 w wr (hs p k)) (fun i _ => ps.size + 1 - (intOf i).toNat)
  case atStart => exact ⟨0, by simp, by omega, by rw [hs_zero]; exact M1⟩
  case round =>
    clear M1
    obtain ⟨k, rfl, hk, M⟩ := hrel
    by_cases hlt : 64 * k + 64 ≤ ps.size
    · have l1 : 64 * (k : Int) + 64 ≤ (ps.size : Int) := by omega
      obtain ⟨a0, b0, d0⟩ := ix2 (x := 64 * (k : Int) + 64) (n := 64 * k + 64) (by omega) (by omega)
      obtain ⟨a1, b1, d1⟩ := ix2 (x := 64 * (k : Int)) (n := 64 * k) (by omega) (by omega)
      have l2 : 64 * (k : Int) ≤ 64 * (k : Int) + 64 := by omega
      have L1 := M.drew.st.loads (P := Tryd.prog) (ty := 53) (by kernel_rfl) (by rw [hs_len]; kernel_rfl)
      go_wp2
      refine wp_region_still_tail 6 (by kernel_rfl) (by kernel_rfl) ?_
      simp only [List.take_succ_cons, List.take_zero, List.drop_succ_cons, List.drop_zero]
      refine wps_load L1 rfl rfl rfl ?_
      repeat still_step
      refine wpStill_nil ?_
      change wpList _ _ _ _ _ wr.drew
      have M2 := M.drew
      clear M L1
      generalize wr.drew = w2 at M2 ⊢
      go_wp2_with fail
      have ez : (ps.extract (64 * k) (64 * k + 64)).size = 64 := by rw [ByteArray.size_extract]; omega
      refine (block_any (hs p k) _ _ (hs_len _ _) (hs_lt _ _) ez).mono ?_
      rintro e w3 ⟨rfl, hb⟩
      have M3 := M2.below hb
      clear M2 hb ez
      rw [bl_sub2 ps (64 * k) 64, PB.out, ← hs_succ]
      have S3 := M3.st.stores (P := Tryd.prog) (ty := 53) (l' := hs p (k + 1)) (by rw [hs_len]; kernel_rfl) (by rw [hs_len, hs_len])
      have M4 := M3.row (hs p (k + 1))
      go_wp2_with (refine wpl_store S3 rfl rfl rfl rfl rfl ?_)
      go_roundw
      case rel => exact ⟨k + 1, by go_num, by omega, M4⟩
      case measure => simp [intOf]; omega
    · have l1 : ¬ 64 * (k : Int) + 64 ≤ (ps.size : Int) := by omega
      have ek : k = p.length / 64 := by rw [← PS.out]; omega
      have HST := Lib.hid (show digTo (hs p (p.length / 64)) 8 = outTo (hs p k) 32 by rw [← ek]; exact (out_dig (hs p k) 8).symm)
      have STL := Lib.hid (hs_len p k)
      clear ek
      generalize hs p k = st at M HST STL
      obtain ⟨X4, S4, N⟩ := o4_init M
      clear M
      go_upto_region 8 with (first | refine wpList_buildTo rfl 22 _ rfl (some 25) rfl (vals .u8 (List.replicate 32 0)).toArray (by kernel_rfl) ?_ | refine wpl_store S4 rfl rfl rfl rfl rfl ?_)
      clear S4
      generalize wr.heap.size = V at N ⊢
      go_wp2
      go_loopw [7] (fun i wr => ∃ t : Nat, t ≤ 32 ∧ i = .int .i64 t ∧ O4 w wr V st (outTo st t)) (fun i _ => 32 - (intOf i).toNat)
      case atStart => exact ⟨0, Nat.zero_le _, rfl, N⟩
      case round =>
        clear N
        obtain ⟨t, ht, rfl, N⟩ := hrel
        by_cases hlt : t < 32
        · have c0 := N.out.cell (j := t) (by rw [out_len]; exact hlt)
          have f0 := N.out.frozen t
          have l4 : (t : Int) < 32 := by omega
          have c1 := N.o.st.cell (j := t / 4) (by rw [STL.out]; omega)
          have d1 : ((t : Int) / 4).toNat = t / 4 := by omega
          have d2 : (t : Int) / 4 < 8 := by omega
          have d3 : (0 : Int) ≤ (t : Int) / 4 := by omega
          have d4 : (0 : Int) ≤ 24 - 8 * ((t : Int) % 4) := by omega
          have d5 : (24 - 8 * ((t : Int) % 4)).toNat = 24 - 8 * (t % 4) := by omega
          have d6 : min (24 - 8 * (t % 4)) 32 = 24 - 8 * (t % 4) := by omega
          go_wp2
          go_roundw
          case rel =>
            refine ⟨t + 1, by omega, by go_num, ?_⟩
            rw [show ((at0 st (t / 4) : Nat) : Int) / 2 ^ (24 - 8 * (t % 4)) % 256 = ((at0 st (t / 4) / 2 ^ (24 - 8 * (t % 4)) % 256 : Nat) : Int) by rw [wshr]; omega, out_succ]
            exact N.step t _
          case measure => simp [intOf]; omega
        · obtain rfl : t = 32 := by omega
          clear hlt ht
          have L1 := N.out.loads (P := Tryd.prog) (ty := 22) (by kernel_rfl) (by rw [out_len]; kernel_rfl)
          have S1 := N.o.res.stores (P := Tryd.prog) (ty := 22) (l' := outTo st 32) (by rw [out_len]; kernel_rfl) (by rw [out_len]; rfl)
          go_wp2_with (first | refine wpl_load L1 rfl rfl rfl ?_ | refine wpl_store S1 rfl rfl rfl rfl rfl ?_)
          rw [HPE.out, HST.out]
          exact bodyPost_ret (results_cell_row Tryd.results23 _ _ w.heap.size 22 (vals .u8 (outTo st 32)).toArray (0, 0) _ rfl (N.o.res.row _).heap Tryd.underlying22 rfl (by simp only [List.size_toArray, vals_len, out_len]; kernel_rfl)) rfl ⟨rfl, below_row N.o.bel (by omega)⟩
end Go.Proofs.YtmnkhcefdpcheaaDoor.Sh
