/-
  Contract of sha.mixed: the state behind a block of 64 bytes, where the table of keys lies as the program's text lays it; nothing that was there is changed.
-/
import Derived.Test.YtmnkhcefdpcheaaDoorShSched
namespace Go.Proofs.YtmnkhcefdpcheaaDoor.Sh
open Go.RowKit
set_option linter.unusedVariables false

/-- what the call holds in memory: the state, the result's room, the numbers, the keys -/
structure M4 (w wr : World) (B : Nat) (s W : List Nat) : Prop where
  st : Blk wr w.heap.size .u32 53 s
  res : Blk wr (w.heap.size + 1 + 1) .u32 53 (List.replicate 8 0)
  nums : Blk wr B .u32 65 W
  keys : Tab wr 1 keys
  bel : Below w.heap.size w wr
theorem M4.drew {w wr : World} {B : Nat} {s W : List Nat} (h : M4 w wr B s W) : M4 w wr.drew B s W := ⟨h.st.drew, h.res.drew, h.nums.drew, h.keys.drew, h.bel.drew⟩
theorem zeros8 : (vals .u32 (List.replicate 8 0)).toArray = #[.int .u32 0, .int .u32 0, .int .u32 0, .int .u32 0, .int .u32 0, .int .u32 0, .int .u32 0, .int .u32 0] := by rfl
theorem m4_init (w : World) (s b W : List Nat) (w1 : World) (hk : Tab w 1 keys) (hW : W.length = 64)
    (hb : Below (((w.alloc (.cells (vals .u32 s).toArray 53)).alloc (.cells (vals .u8 b).toArray 58)).alloc (.cells #[.int .u32 0, .int .u32 0, .int .u32 0, .int .u32 0, .int .u32 0, .int .u32 0, .int .u32 0, .int .u32 0] 53)).heap.size (((w.alloc (.cells (vals .u32 s).toArray 53)).alloc (.cells (vals .u8 b).toArray 58)).alloc (.cells #[.int .u32 0, .int .u32 0, .int .u32 0, .int .u32 0, .int .u32 0, .int .u32 0, .int .u32 0, .int .u32 0] 53)) w1) :
    ∃ X, Stores Tryd.prog (w1.alloc (.cells #[.int .u32 0, .int .u32 0, .int .u32 0, .int .u32 0, .int .u32 0, .int .u32 0, .int .u32 0, .int .u32 0, .int .u32 0, .int .u32 0, .int .u32 0, .int .u32 0, .int .u32 0, .int .u32 0, .int .u32 0, .int .u32 0, .int .u32 0, .int .u32 0, .int .u32 0, .int .u32 0, .int .u32 0, .int .u32 0, .int .u32 0, .int .u32 0, .int .u32 0, .int .u32 0, .int .u32 0, .int .u32 0, .int .u32 0, .int .u32 0, .int .u32 0, .int .u32 0, .int .u32 0, .int .u32 0, .int .u32 0, .int .u32 0, .int .u32 0, .int .u32 0, .int .u32 0, .int .u32 0, .int .u32 0, .int .u32 0, .int .u32 0, .int .u32 0, .int .u32 0, .int .u32 0, .int .u32 0, .int .u32 0, .int .u32 0, .int .u32 0, .int .u32 0, .int .u32 0, .int .u32 0, .int .u32 0, .int .u32 0, .int .u32 0, .int .u32 0, .int .u32 0, .int .u32 0, .int .u32 0, .int .u32 0, .int .u32 0, .int .u32 0, .int .u32 0] 65)) 65 w1.heap.size 0 (vals .u32 W).toArray X ∧ M4 w X w1.heap.size s W := by
  rw [← zeros64]
  refine ⟨_, (Blk.new w1 .u32 65 (List.replicate 64 0)).stores (by rw [hW]; kernel_rfl) (by rw [hW]; rfl), ?_⟩
  have h0 : w.heap.size + 3 ≤ w1.heap.size := by have := hb.size; simp at this; omega
  have k0 := hk.lt
  rw [← zeros8] at hb
  have e1 : Blk (((w.alloc (.cells (vals .u32 s).toArray 53)).alloc (.cells (vals .u8 b).toArray 58)).alloc (.cells (vals .u32 (List.replicate 8 0)).toArray 53)) (w.heap.size + 1 + 1) .u32 53 (List.replicate 8 0) := by
    have := Blk.new ((w.alloc (.cells (vals .u32 s).toArray 53)).alloc (.cells (vals .u8 b).toArray 58)) .u32 53 (List.replicate 8 0)
    simpa using this
  have e0 : Blk (((w.alloc (.cells (vals .u32 s).toArray 53)).alloc (.cells (vals .u8 b).toArray 58)).alloc (.cells (vals .u32 (List.replicate 8 0)).toArray 53)) w.heap.size .u32 53 s := ((Blk.new w _ _ _).alloc _).alloc _
  refine ⟨((e0.below hb (by simp <;> omega)).alloc _).rowOther (by omega), ((e1.below hb (by simp)).alloc _).rowOther (by omega), (Blk.new w1 _ _ _).row _, (((((hk.alloc _).alloc _).alloc _).below hb (by simp <;> omega)).alloc _).rowOther (by omega), below_row ?_ (by omega)⟩
  refine Below.alloc ?_ (by omega) _
  exact ((((Below.refl _ _).alloc (Nat.le_refl _) _).alloc (by simp) _).alloc (by simp <;> omega) _).trans (hb.mono (by simp <;> omega))

theorem t1_num (r : R8) (k x : Nat) : (((((r.h : Int) + (bs1 r.e : Nat)) % 4294967296 + (chN r.e r.f r.g : Nat)) % 4294967296 + (k : Nat)) % 4294967296 + (x : Nat)) % 4294967296 = ((t1 r k x : Nat) : Int) := by
  unfold t1 add32; omega
theorem wsum (a b : Nat) : ((a : Int) + (b : Int)) % 4294967296 = ((add32 a b : Nat) : Int) := by unfold add32; omega
theorem addR_len (s : List Nat) (r : R8) : (addR s r).length = 8 := rfl
theorem agg_eq (s : List Nat) (r : R8) : Value.agg #[.int .u32 ((((at0 s 0 : Nat) : Int) + r.a) % 4294967296), .int .u32 ((((at0 s 1 : Nat) : Int) + r.b) % 4294967296), .int .u32 ((((at0 s 2 : Nat) : Int) + r.c) % 4294967296), .int .u32 ((((at0 s 3 : Nat) : Int) + r.d) % 4294967296), .int .u32 ((((at0 s 4 : Nat) : Int) + r.e) % 4294967296), .int .u32 ((((at0 s 5 : Nat) : Int) + r.f) % 4294967296), .int .u32 ((((at0 s 6 : Nat) : Int) + r.g) % 4294967296), .int .u32 ((((at0 s 7 : Nat) : Int) + r.h) % 4294967296)] = .agg (vals .u32 (addR s r)).toArray := by
  simp only [wsum]; rfl

set_option maxRecDepth 100000 in
set_option maxHeartbeats 4000000 in
theorem mixed_any (s b : List Nat) (w : World) (hs : s.length = 8) (hs2 : Lt 4294967296 s) (hb : b.length = 64) (hb2 : Lt 256 b) (hk : Tab w 1 keys) :
    Calls Tryd.prog 36 #[.agg (vals .u32 s).toArray, .agg (vals .u8 b).toArray] w fun e w' => e = .returned (.agg (vals .u32 (mixL s b)).toArray) ∧ Below w.heap.size w w' := by
  have HS := Lib.hid hs
  have HS2 := Lib.hid hs2
  have HB := Lib.hid hb
  have HB2 := Lib.hid hb2
  have HK := Lib.hid hk
  clear hs hs2 hb hb2 hk
  have H1 : Loads Tryd.prog (((w.alloc (.cells (vals .u32 s).toArray 53)).alloc (.cells (vals .u8 b).toArray 58)).alloc (.cells #[.int .u32 0, .int .u32 0, .int .u32 0, .int .u32 0, .int .u32 0, .int .u32 0, .int .u32 0, .int .u32 0] 53)) 58 (w.heap.size + 1) 0 (vals .u8 b).toArray := by
    have := ((Blk.new (w.alloc (.cells (vals .u32 s).toArray 53)) .u8 58 b).alloc (.cells #[.int .u32 0, .int .u32 0, .int .u32 0, .int .u32 0, .int .u32 0, .int .u32 0, .int .u32 0, .int .u32 0] 53)).loads (P := Tryd.prog) (ty := 58) (by kernel_rfl) (by rw [HB.out]; kernel_rfl)
    simpa using this
  go_enter Tryd.func36, Tryd.ntmps36
  go_wp2_with (refine wpl_load H1 rfl rfl rfl ?_)
  refine (sched_any b _ HB2.out HB.out).mono ?_
  rintro e w1 ⟨rfl, hb1⟩
  clear H1
  obtain ⟨X, H4, M⟩ := m4_init w s b (schedTo b 64) w1 HK.out (sched_len b 64) hb1
  clear hb1
  generalize hW : schedTo b 64 = W at H4 M ⊢
  have HW := Lib.hid hW
  clear hW
  go_wp2_with (refine wpl_store H4 rfl rfl rfl rfl rfl ?_)
  clear H4
  generalize w1.heap.size = B at M ⊢
  have c0 := M.st.cell (j := 0) (by rw [HS.out]; decide)
  have c1 := M.st.cell (j := 1) (by rw [HS.out]; decide)
  have c2 := M.st.cell (j := 2) (by rw [HS.out]; decide)
  have c3 := M.st.cell (j := 3) (by rw [HS.out]; decide)
  have c4 := M.st.cell (j := 4) (by rw [HS.out]; decide)
  have c5 := M.st.cell (j := 5) (by rw [HS.out]; decide)
  have c6 := M.st.cell (j := 6) (by rw [HS.out]; decide)
  have c7 := M.st.cell (j := 7) (by rw [HS.out]; decide)
  refine wp_region_still_lit (by kernel_rfl) (by kernel_rfl) ?_
  repeat still_step
  refine wpStill_nil ?_
  have M1 := M.drew
  clear c0 c1 c2 c3 c4 c5 c6 c7 M
  generalize hX : ({ heap := X.heap, tape := X.tape, drawn := X.drawn + 1, os := X.os, output := X.output } : World) = X1
  have hX' : X.drew = X1 := hX
  rw [hX'] at M1
  clear hX hX'
  have M := M1
  clear M1
  have c0 := M.st.cell (j := 0) (by rw [HS.out]; decide)
  have c1 := M.st.cell (j := 1) (by rw [HS.out]; decide)
  have c2 := M.st.cell (j := 2) (by rw [HS.out]; decide)
  have c3 := M.st.cell (j := 3) (by rw [HS.out]; decide)
  have c4 := M.st.cell (j := 4) (by rw [HS.out]; decide)
  have c5 := M.st.cell (j := 5) (by rw [HS.out]; decide)
  have c6 := M.st.cell (j := 6) (by rw [HS.out]; decide)
  have c7 := M.st.cell (j := 7) (by rw [HS.out]; decide)
  go_wp2
  refine wp_region_still_lit (by kernel_rfl) (by kernel_rfl) ?_
  repeat still_step
  refine wpStill_nil ?_
  have M1 := M.drew
  clear c0 c1 c2 c3 c4 c5 c6 c7 M
  generalize hX : ({ heap := X1.heap, tape := X1.tape, drawn := X1.drawn + 1, os := X1.os, output := X1.output } : World) = X2
  have hX' : X1.drew = X2 := hX
  rw [hX'] at M1
  clear hX hX'
  have M := M1
  clear M1
  go_wp2
  go_loopw [6, 7, 8, 9, 10, 11, 12, 13, 35] (fun v6 v7 v8 v9 v10 v11 v12 v13 i wr => ∃ t : Nat, t ≤ 64 ∧ i = .int .i64 t ∧ v6 = .int .u32 ((roundTo s W t).a : Nat) ∧ v7 = .int .u32 ((roundTo s W t).b : Nat) ∧ v8 = .int .u32 ((roundTo s W t).c : Nat) ∧ v9 = .int .u32 ((roundTo s W t).d : Nat) ∧ v10 = .int .u32 ((roundTo s W t).e : Nat) ∧ v11 = .int .u32 ((roundTo s W t).f : Nat) ∧ v12 = .int .u32 ((roundTo s W t).g : Nat) ∧ v13 = .int .u32 ((roundTo s W t).h : Nat) ∧ M4 w wr B s W) (fun _ _ _ _ _ _ _ _ i _ => 64 - (intOf i).toNat)
  case atStart => exact ⟨0, Nat.zero_le _, rfl, by rw [round_zero]; rfl, by rw [round_zero]; rfl, by rw [round_zero]; rfl, by rw [round_zero]; rfl, by rw [round_zero]; rfl, by rw [round_zero]; rfl, by rw [round_zero]; rfl, by rw [round_zero]; rfl, M⟩
  case round =>
    clear M
    obtain ⟨t, ht, rfl, rfl, rfl, rfl, rfl, rfl, rfl, rfl, rfl, M⟩ := hrel
    have ok := round_ok (s := s) (W := W) HS2.out t
    have HN := Lib.hid (round_succ s W t)
    by_cases hlt : t < 64
    · generalize roundTo s W t = r at ok HN ⊢
      have k0 := M.keys.cell (j := t) hlt
      have k1 := M.nums.cell (j := t) (by rw [← HW.out, sched_len]; exact hlt)
      have l4 : (t : Int) < 64 := by omega
      have hadd : ∀ a b : Nat, ((a : Int) + (b : Int)) % 4294967296 = ((add32 a b : Nat) : Int) := fun a b => by unfold add32; omega
      go_wp2
      refine wp_region_still_lit (by kernel_rfl) (by kernel_rfl) ?_
      repeat still_step
      still_call (flip (bs1_any _ _ ok.e))
      repeat still_step
      still_call (flip (ch_any _ _ _ _ ok.e ok.f ok.g))
      repeat still_step
      refine wpStill_nil ?_
      have M1 := M.drew
      clear M k0 k1
      generalize hX : ({ heap := wr.heap, tape := wr.tape, drawn := wr.drawn + 1, os := wr.os, output := wr.output } : World) = X3
      have hX' : wr.drew = X3 := hX
      rw [hX'] at M1
      clear hX hX'
      go_wp2_with fail
      refine (bs0_any _ _ ok.a).mono ?_
      rintro e w' ⟨rfl, rfl⟩
      go_wp2_with fail
      refine (maj_any _ _ _ _ ok.a ok.b ok.c).mono ?_
      rintro e w' ⟨rfl, rfl⟩
      go_wp2
      go_roundw
      case rel =>
        refine ⟨t + 1, by omega, by go_num, ?_⟩
        rw [HN.out, t1_num, wsum, wsum]
        exact ⟨rfl, rfl, rfl, rfl, rfl, rfl, rfl, rfl, M1⟩
      case measure => simp [intOf]; omega
    · obtain rfl : t = 64 := by omega
      clear hlt ht HN ok
      have HM := Lib.hid (mix_eq s b)
      rw [HW.out] at HM
      generalize roundTo s W 64 = r at HM ⊢
      have c0 := M.st.cell (j := 0) (by rw [HS.out]; decide)
      have c1 := M.st.cell (j := 1) (by rw [HS.out]; decide)
      have c2 := M.st.cell (j := 2) (by rw [HS.out]; decide)
      have c3 := M.st.cell (j := 3) (by rw [HS.out]; decide)
      have c4 := M.st.cell (j := 4) (by rw [HS.out]; decide)
      have c5 := M.st.cell (j := 5) (by rw [HS.out]; decide)
      have c6 := M.st.cell (j := 6) (by rw [HS.out]; decide)
      have c7 := M.st.cell (j := 7) (by rw [HS.out]; decide)
      have H2 := M.res.stores (P := Tryd.prog) (ty := 53) (l' := addR s r) (by rw [addR_len]; kernel_rfl) (by rw [addR_len]; rfl)
      go_wp2_with (refine wpl_store H2 rfl rfl rfl rfl (agg_eq s r) ?_)
      rw [HM.out]
      exact bodyPost_ret (results_cell_row Tryd.results36 _ _ (w.heap.size + 1 + 1) 53 (vals .u32 (addR s r)).toArray (0, 0) _ rfl (M.res.row _).heap Tryd.underlying53 rfl (by simp only [List.size_toArray, vals_len, addR_len]; kernel_rfl)) rfl ⟨rfl, below_row M.bel (by omega)⟩
end Go.Proofs.YtmnkhcefdpcheaaDoor.Sh
