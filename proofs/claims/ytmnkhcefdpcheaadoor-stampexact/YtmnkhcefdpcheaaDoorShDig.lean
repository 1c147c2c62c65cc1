/-
  Contract of sha.digestOf: the 32 bytes of a state; nothing that was there is changed.
-/
import Derived.Test.YtmnkhcefdpcheaaDoorShMix
namespace Go.Proofs.YtmnkhcefdpcheaaDoor.Sh
open Go.RowKit
set_option linter.unusedVariables false

structure D3 (w wr : World) (s D : List Nat) : Prop where
  st : Blk wr w.heap.size .u32 53 s
  res : Blk wr (w.heap.size + 1) .u8 23 (List.replicate 32 0)
  d : Blk wr (w.heap.size + 1 + 1) .u8 23 D
  bel : Below w.heap.size w wr
theorem zeros32 : (vals .u8 (List.replicate 32 0)).toArray = #[.int .u8 0, .int .u8 0, .int .u8 0, .int .u8 0, .int .u8 0, .int .u8 0, .int .u8 0, .int .u8 0, .int .u8 0, .int .u8 0, .int .u8 0, .int .u8 0, .int .u8 0, .int .u8 0, .int .u8 0, .int .u8 0, .int .u8 0, .int .u8 0, .int .u8 0, .int .u8 0, .int .u8 0, .int .u8 0, .int .u8 0, .int .u8 0, .int .u8 0, .int .u8 0, .int .u8 0, .int .u8 0, .int .u8 0, .int .u8 0, .int .u8 0, .int .u8 0] := by rfl
theorem d3_init (w : World) (s : List Nat) : D3 w (((w.alloc (.cells (vals .u32 s).toArray 53)).alloc (.cells #[.int .u8 0, .int .u8 0, .int .u8 0, .int .u8 0, .int .u8 0, .int .u8 0, .int .u8 0, .int .u8 0, .int .u8 0, .int .u8 0, .int .u8 0, .int .u8 0, .int .u8 0, .int .u8 0, .int .u8 0, .int .u8 0, .int .u8 0, .int .u8 0, .int .u8 0, .int .u8 0, .int .u8 0, .int .u8 0, .int .u8 0, .int .u8 0, .int .u8 0, .int .u8 0, .int .u8 0, .int .u8 0, .int .u8 0, .int .u8 0, .int .u8 0, .int .u8 0] 23)).alloc (.cells #[.int .u8 0, .int .u8 0, .int .u8 0, .int .u8 0, .int .u8 0, .int .u8 0, .int .u8 0, .int .u8 0, .int .u8 0, .int .u8 0, .int .u8 0, .int .u8 0, .int .u8 0, .int .u8 0, .int .u8 0, .int .u8 0, .int .u8 0, .int .u8 0, .int .u8 0, .int .u8 0, .int .u8 0, .int .u8 0, .int .u8 0, .int .u8 0, .int .u8 0, .int .u8 0, .int .u8 0, .int .u8 0, .int .u8 0, .int .u8 0, .int .u8 0, .int .u8 0] 23)) s (digTo s 0) := by
  rw [← zeros32, dig_zero]
  refine ⟨((Blk.new w _ _ _).alloc _).alloc _, ?_, ?_, ((((Below.refl _ _).alloc (Nat.le_refl _) _).alloc (by simp) _).alloc (by simp <;> omega) _)⟩
  · have := (Blk.new (w.alloc (.cells (vals .u32 s).toArray 53)) .u8 23 (List.replicate 32 0)).alloc (.cells (vals .u8 (List.replicate 32 0)).toArray 23)
    simpa using this
  · have := Blk.new ((w.alloc (.cells (vals .u32 s).toArray 53)).alloc (.cells (vals .u8 (List.replicate 32 0)).toArray 23)) .u8 23 (List.replicate 32 0)
    simpa using this
theorem D3.step {w wr : World} {s D : List Nat} (h : D3 w wr s D) (j v : Nat) : D3 w (wr.setCell ⟨w.heap.size + 1 + 1, j, none⟩ (.int .u8 (v : Int))) s (D.set j v) :=
  ⟨h.st.other (by simp; omega) _, h.res.other (by simp) _, h.d.set j v, h.bel.setCell (by simp; omega) _⟩

theorem index_num {P : Program} {T e : TypeId} {n : Nat} {k : IntKind} (hT : P.underlying T = some (.array n e)) (he : P.underlying e = some (.int k)) (hz : (P.info? e).map (·.size) = some 1) (l : List Nat) (hl : l.length = n) (t : Nat) (ht : t < n) (w : World) :
    (Instr.index T (.agg (vals k l).toArray) (.int .i64 (t : Int))).run P w = .ok (.int k (at0 l t : Nat)) w := by
  have hs := size_of hz w
  have hg := vals_get (k := k) (show t < l.length by omega)
  have h1 : (0 : Int) ≤ (t : Int) ∧ (t : Int) < (n : Int) := by omega
  have hg' : (vals k l).toArray[t]? = some (.int k (at0 l t : Nat)) := by simpa using hg
  simp [Instr.index, asIntOf, run_underlying hT, h1, hs, part, isAgg, run_underlying he, hg', -List.getElem?_toArray]
  intro h; omega

set_option maxRecDepth 100000 in
set_option maxHeartbeats 4000000 in
theorem digest_any (s : List Nat) (w : World) (hs : s.length = 8) (hs2 : Lt 4294967296 s) :
    Calls Tryd.prog 37 #[.agg (vals .u32 s).toArray] w fun e w' => e = .returned (.agg (vals .u8 (digTo s 8)).toArray) ∧ Below w.heap.size w w' := by
  have HS := Lib.hid hs
  have HS2 := Lib.hid hs2
  clear hs hs2
  have M := d3_init w s
  have H1 := M.st.loads (P := Tryd.prog) (ty := 53) (by kernel_rfl) (by rw [HS.out]; kernel_rfl)
  go_enter Tryd.func37, Tryd.ntmps37
  go_wp2_with (refine wpl_load H1 rfl rfl rfl ?_)
  clear H1
  go_loopw [7] (fun i wr => ∃ t : Nat, t ≤ 8 ∧ i = .int .i64 t ∧ D3 w wr s (digTo s t)) (fun i _ => 8 - (intOf i).toNat)
  case atStart => exact ⟨0, Nat.zero_le _, rfl, M⟩
  case round =>
    clear M
    obtain ⟨t, ht, rfl, M⟩ := hrel
    by_cases hlt : t < 8
    · have hix := index_num Tryd.underlying53 Tryd.underlying52 (by kernel_rfl) s HS.out t hlt wr
      have hd : decide ((t : Int) < 8) = true := by simp; omega
      obtain ⟨a0, b0, d0⟩ := ix (x := 4 * (t : Int)) (n := 4 * t) (by omega) (by omega)
      obtain ⟨a1, b1, d1⟩ := ix (x := 4 * (t : Int) + 1) (n := 4 * t + 1) (by omega) (by omega)
      obtain ⟨a2, b2, d2⟩ := ix (x := 4 * (t : Int) + 2) (n := 4 * t + 2) (by omega) (by omega)
      obtain ⟨a3, b3, d3⟩ := ix (x := 4 * (t : Int) + 3) (n := 4 * t + 3) (by omega) (by omega)
      have l0 : 4 * (t : Int) < 32 := by omega
      have l1 : 4 * (t : Int) + 1 < 32 := by omega
      have l2 : 4 * (t : Int) + 2 < 32 := by omega
      have l3 : 4 * (t : Int) + 3 < 32 := by omega
      have c0 := M.d.cell (j := 4 * t) (by rw [dig_len]; omega)
      have c1 := M.d.cell (j := 4 * t + 1) (by rw [dig_len]; omega)
      have c2 := M.d.cell (j := 4 * t + 2) (by rw [dig_len]; omega)
      have c3 := M.d.cell (j := 4 * t + 3) (by rw [dig_len]; omega)
      have f0 := M.d.frozen (4 * t)
      have f1 := M.d.frozen (4 * t + 1)
      have f2 := M.d.frozen (4 * t + 2)
      have f3 := M.d.frozen (4 * t + 3)
      go_wp2
      go_roundw
      case rel =>
        refine ⟨t + 1, by omega, by go_num, ?_⟩
        rw [dig_succ, show ((at0 s t : Nat) : Int) / 16777216 % 256 = ((at0 s t / 16777216 % 256 : Nat) : Int) by omega, show ((at0 s t : Nat) : Int) / 65536 % 256 = ((at0 s t / 65536 % 256 : Nat) : Int) by omega, show ((at0 s t : Nat) : Int) / 256 % 256 = ((at0 s t / 256 % 256 : Nat) : Int) by omega, show ((at0 s t : Nat) : Int) % 256 = ((at0 s t % 256 : Nat) : Int) by omega]
        exact (((M.step _ _).step _ _).step _ _).step _ _
      case measure => simp [intOf]; omega
    · obtain rfl : t = 8 := by omega
      clear hlt ht
      have H1 := M.d.loads (P := Tryd.prog) (ty := 23) (by kernel_rfl) (by rw [dig_len]; kernel_rfl)
      have H2 := M.res.stores (P := Tryd.prog) (ty := 23) (l' := digTo s 8) (by rw [dig_len]; kernel_rfl) (by rw [dig_len]; rfl)
      go_wp2_with (first | refine wpl_load H1 rfl rfl rfl ?_ | refine wpl_store H2 rfl rfl rfl rfl rfl ?_)
      exact bodyPost_ret (results_cell_row Tryd.results37 _ _ (w.heap.size + 1) 23 (vals .u8 (digTo s 8)).toArray (0, 0) _ rfl (M.res.row _).heap Tryd.underlying23 rfl (by simp only [List.size_toArray, vals_len, dig_len]; kernel_rfl)) rfl ⟨rfl, below_row M.bel (by omega)⟩
end Go.Proofs.YtmnkhcefdpcheaaDoor.Sh
