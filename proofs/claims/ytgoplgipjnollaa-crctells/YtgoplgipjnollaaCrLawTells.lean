/-
  CrcTells is true for every text, place and mask: of bytes of which up to 32 bits that stand together are turned the sum is another one. No conditions.
-/
import Derived.Test.YtgoplgipjnollaaCrBytes
import Derived.ProofKit
import Derived.OpenShut
import Derived.ShutString
namespace Go.Proofs.Ytgoplgipjnollaa.crcTells
open Go.ChangeShapes Go.WideShapes Go.ChangeAt Go.RowKit Go.PlainAid Go.Proofs.Ytgoplgipjnollaa.Cr
open Go.ChangeMaps (open_string shut_string)
set_option linter.unusedVariables false

theorem w64 {x : Int} (h0 : 0 ≤ x) (h1 : x ≤ 1000000) : wrap64 x = x := by rw [← i64_is]; exact IntWalk.i64_in _ (by omega)
theorem cut_num (x : Int) (n : Nat) : ∃ k : Nat, (IntKind.u64.wrap x).tmod ((n : Int) + 1) = (k : Int) ∧ k ≤ n := by
  have h0 : 0 ≤ IntKind.u64.wrap x := wrap_u64_nonneg x
  rw [Int.tmod_eq_emod_of_nonneg h0]
  have h1 := Int.emod_nonneg (IntKind.u64.wrap x) (show ((n : Int) + 1) ≠ 0 by omega)
  have h2 := Int.emod_lt_of_pos (IntKind.u64.wrap x) (show 0 < (n : Int) + 1 by omega)
  exact ⟨(IntKind.u64.wrap x % ((n : Int) + 1)).toNat, by omega, by omega⟩
theorem cut_one (x : Int) (n : Nat) (h4 : 4 ≤ n) (h : n ≤ 4096) : ∃ bit : Nat, bit ≤ 8 * (n - 4) ∧ wrap64 ((IntKind.u64.wrap x).tmod (8 * ((n : Int) - 4) + 1)) = (bit : Int) := by
  obtain ⟨k, hk, hkl⟩ := cut_num x (8 * (n - 4))
  refine ⟨k, hkl, ?_⟩
  rw [show (8 * ((n : Int) - 4)) = ((8 * (n - 4) : Nat) : Int) by omega, hk]; clear hk; exact w64 (by omega) (by omega)
theorem shr_num (B t : Nat) : (B : Int) / 2 ^ (8 * t) % 256 = ((B / 256 ^ t % 256 : Nat) : Int) := by
  have e : (2 ^ (8 * t) : Nat) = 256 ^ t := by rw [Nat.pow_mul]
  rw [← e]; simp

set_option maxRecDepth 100000 in
set_option maxHeartbeats 4000000 in
theorem main (s : ByteArray) (x : Int) (mask : Nat) (w : World) (h4 : 4 ≤ s.size) (h : s.size ≤ 4096) (h0 : mask ≠ 0) (h1 : mask < 4294967296) :
    Calls Try.prog 5 #[.string s, .int .i64 x, .int .u32 mask] w fun e w' => e = .returned (.bool true) ∧ Below w.heap.size w w' := by
  have l1 : (4 : Int) ≤ (s.size : Int) := by omega
  have l2 : (s.size : Int) ≤ 4096 := by omega
  have d1 : decide ((s.size : Int) < 4) = false := by simp; omega
  have d2 : decide ((4096 : Int) < (s.size : Int)) = false := by simp; omega
  have d3 : ((mask : Int) == 0) = false := by simp; omega
  obtain ⟨bit, hbl, hk⟩ := cut_one x s.size h4 h
  have HK := Lib.hid hk
  clear hk
  go_enter Try.func5, Try.ntmps5
  go_wp2_with fail
  refine (awake_any _).mono ?_
  rintro e w1 ⟨rfl, hb1⟩
  go_upto_region 6 with (fail)
  rw [HK.out]
  clear HK
  obtain ⟨cap, X, CV, RB, BX, SX⟩ := conv_row w1 s
  have JB := hb1.trans (BX.mono hb1.size)
  have HB : w.heap.size ≤ w1.heap.size := hb1.size
  clear BX hb1
  obtain ⟨p, r, hr, hpr⟩ : ∃ p r : Nat, r < 8 ∧ bit = 8 * p + r := ⟨bit / 8, bit % 8, Nat.mod_lt _ (by decide), by omega⟩
  have e1 : (bit : Int) / 8 = (p : Int) := by omega
  have e2 : (bit : Int) % 8 = (r : Int) := by omega
  have TOLD := Lib.hid (told (bl s) p r mask h0 h1 hr (by rw [bl_len]; omega))
  have hps : p + 4 ≤ s.size := by omega
  have HP5 : Hid (p + 5 ≤ s.size ∨ (p + 4 = s.size ∧ mask * 2 ^ r < 4294967296)) := Lib.hid (by
    have hp5 : p + 5 ≤ s.size ∨ (p + 4 = s.size ∧ r = 0) := by omega
    rcases hp5 with c | ⟨c, rfl⟩
    · exact Or.inl c
    · exact Or.inr ⟨c, by omega⟩)
  have HW : Hid (IntKind.u64.wrap ((mask : Int) * 2 ^ r) = ((mask * 2 ^ r : Nat) : Int) ∧ mask * 2 ^ r < 1099511627776) := Lib.hid (by
    have a : mask * 2 ^ r < 4294967296 * 2 ^ 8 := Nat.lt_of_lt_of_le (Nat.mul_lt_mul_of_pos_right h1 (Nat.two_pow_pos r)) (Nat.mul_le_mul_left _ (Nat.pow_le_pow_right (by decide) (by omega)))
    have b : (mask : Int) * 2 ^ r = ((mask * 2 ^ r : Nat) : Int) := by push_cast; rfl
    refine ⟨?_, by omega⟩
    rw [b, IntKind.wrap_u64]
    omega)
  clear hpr
  go_wp2
  rw [HW.out.1]
  have HBL := Lib.hid HW.out.2
  clear HW
  generalize mask * 2 ^ r = B at TOLD HP5 HBL ⊢
  clear hr e2 CV
  generalize w1.heap.size = V at RB SX HB ⊢
  go_loopw [10] (fun i wr => ∃ t : Nat, t ≤ 5 ∧ i = .int .i64 t ∧ RowB wr V (burL (bl s) p B t) ∧ Below w.heap.size w wr ∧ V < wr.heap.size) (fun i _ => 5 - (intOf i).toNat)
  case atStart => exact ⟨0, by decide, rfl, by rw [burL_zero]; exact RB, JB, SX⟩
  case round =>
    clear RB JB SX
    obtain ⟨t, ht, rfl, RB, JB, SX⟩ := hrel
    by_cases hlt : t < 5
    · have f1 : (t : Int) < 5 := by omega
      have f2 : (0 : Int) ≤ 8 * (t : Int) := by omega
      have f3 : (8 * (t : Int)).toNat = 8 * t := by omega
      have f4 : min (8 * t) 64 = 8 * t := by omega
      by_cases hin : p + t < s.size
      · have g1 : decide ((s.size : Int) ≤ (p : Int) + (t : Int)) = false := by simp; omega
        have hin' : p + t < (bl s).length := by rw [bl_len]; exact hin
        obtain ⟨c1, c2⟩ := RB.cell (p + t) _ (burL_at (bl s) p B t hin')
        have hlb := bl_lt s _ (List.getElem_mem hin')
        have SU := Lib.hid (burL_succ (bl s) p B t hin')
        have W1 := Lib.hid (fun v => RB.set (p + t) v (by rw [burL_len]; exact hin'))
        generalize (bl s)[p + t] = y at c1 hlb SU
        have g2 : bits .xor .u8 (y : Int) ((B : Int) / 2 ^ (8 * t) % 256) = ((y ^^^ (B / 256 ^ t % 256) : Nat) : Int) := by
          rw [shr_num]
          exact u8_xor_nat _ _ hlb (Nat.mod_lt _ (by decide))
        have g3 : ((p : Int) + (t : Int)).toNat = p + t := by omega
        have g4 : (p : Int) + (t : Int) < (s.size : Int) := by omega
        have g5 : (0 : Int) ≤ (p : Int) + (t : Int) := by omega
        go_wp2
        go_roundw
        case rel => exact ⟨t + 1, by omega, by go_num, by rw [SU.out]; exact W1.out _, JB.setCell (by simpa using HB) _, by simpa using SX⟩
        case measure => simp [intOf]; omega
      · have g1 : decide ((s.size : Int) ≤ (p : Int) + (t : Int)) = true := by simp; omega
        have g2 : (B : Int) / 2 ^ (8 * t) % 256 = 0 := by
          rcases HP5.out with c | ⟨c, d⟩
          · omega
          · obtain rfl : t = 4 := by omega
            rw [shr_num]
            omega
        have PA := Lib.hid (burL_past (bl s) p B t (by rw [bl_len]; omega))
        go_wp2
        go_roundw
        case rel => exact ⟨t + 1, by omega, by go_num, by rw [PA.out]; exact RB, JB, SX⟩
        case measure => simp [intOf]; omega
    · have f1 : ¬ (t : Int) < 5 := by omega
      obtain ⟨q, hq⟩ : ∃ q, q = burL (bl s) p B t := ⟨_, rfl⟩
      have TQ : Hid (mor 0 q ≠ mor 0 (bl s)) := Lib.hid (by rw [hq, show t = 5 by omega]; exact TOLD.out)
      have LQ := Lib.hid (show ∀ x ∈ q, x < 256 by rw [hq]; exact burL_lt _ _ _ _ (bl_lt s))
      have NQ : q.length = s.size := by rw [hq, burL_len, bl_len]
      rw [← hq] at RB
      clear hq TOLD
      have CV := RB.conv (cap := cap) LQ.out NQ
      have ZQ : Hid (∀ r ∈ [strOf q], r.size ≤ 9223372036854775807) := Lib.hid (by
        intro r hr; simp only [List.mem_singleton] at hr; subst hr; rw [strOf_size, NQ]; omega)
      have BQ := Lib.hid (bl_strOf LQ.out)
      clear NQ
      go_wp2_with fail
      refine (of_any (one_strs _ _) (by simp) ZQ.out).mono ?_
      rintro e wx ⟨rfl, rfl⟩
      rw [allB_one, BQ.out]
      have J2 := JB.alloc JB.size (.cells #[.string (strOf q)] 9)
      clear CV RB
      generalize wr.alloc (.cells #[.string (strOf q)] 9) = w2 at J2 ⊢
      go_wp2_with fail
      refine (of_any (one_strs _ _) (by simp) (by intro r hr; simp only [List.mem_singleton] at hr; subst hr; omega)).mono ?_
      rintro e wx ⟨rfl, rfl⟩
      rw [allB_one]
      have J3 := J2.alloc J2.size (.cells #[.string s] 9)
      have ne : (((mor 0 q : Nat) : Int) != ((mor 0 (bl s) : Nat) : Int)) = true := by
        have := TQ.out
        simp; omega
      go_wp2
      go_ret
      exact ⟨rfl, J3⟩

theorem few (s : ByteArray) (x : Int) (mask : Nat) (w : World) (h0 : s.size ≤ maxLen) (h : s.size < 4) :
    Calls Try.prog 5 #[.string s, .int .i64 x, .int .u32 mask] w fun e w' => e = .returned (.bool true) ∧ Below w.heap.size w w' := by
  unfold maxLen at h0
  have d1 : decide ((s.size : Int) < 4) = true := by simp; omega
  go_enter Try.func5, Try.ntmps5
  go_wp2_with fail
  refine (awake_any _).mono ?_
  rintro e w1 ⟨rfl, hb1⟩
  go_wp2
  go_ret
  exact ⟨rfl, hb1⟩
theorem many (s : ByteArray) (x : Int) (mask : Nat) (w : World) (h0 : s.size ≤ maxLen) (h : 4096 < s.size) :
    Calls Try.prog 5 #[.string s, .int .i64 x, .int .u32 mask] w fun e w' => e = .returned (.bool true) ∧ Below w.heap.size w w' := by
  unfold maxLen at h0
  have d1 : decide ((s.size : Int) < 4) = false := by simp; omega
  have d2 : decide ((4096 : Int) < (s.size : Int)) = true := by simp; omega
  go_enter Try.func5, Try.ntmps5
  go_wp2_with fail
  refine (awake_any _).mono ?_
  rintro e w1 ⟨rfl, hb1⟩
  go_wp2
  go_ret
  exact ⟨rfl, hb1⟩
theorem zero (s : ByteArray) (x : Int) (w : World) (h4 : 4 ≤ s.size) (h : s.size ≤ 4096) :
    Calls Try.prog 5 #[.string s, .int .i64 x, .int .u32 (0 : Nat)] w fun e w' => e = .returned (.bool true) ∧ Below w.heap.size w w' := by
  have d1 : decide ((s.size : Int) < 4) = false := by simp; omega
  have d2 : decide ((4096 : Int) < (s.size : Int)) = false := by simp; omega
  go_enter Try.func5, Try.ntmps5
  go_wp2_with fail
  refine (awake_any _).mono ?_
  rintro e w1 ⟨rfl, hb1⟩
  go_wp2
  go_ret
  exact ⟨rfl, hb1⟩
theorem u32_nat {x : Int} (h : (Lit.int .u32 x).wf = true) : ∃ n : Nat, x = (n : Int) ∧ n < 4294967296 := by
  simp [Lit.wf, IntKind.min, IntKind.max, IntKind.signed, IntKind.bits] at h
  exact ⟨x.toNat, by omega, by omega⟩
theorem walk (s : ByteArray) (x m : Int) (w0 : s.size ≤ maxLen) (w1 : (Lit.int .i64 x).wf = true) (w2 : (Lit.int .u32 m).wf = true) (w : World) :
    Calls Try.prog 5 #[.string s, .int .i64 x, .int .u32 m] w fun e w' => e = .returned (.bool true) ∧ Below w.heap.size w w' := by
  obtain ⟨n, rfl, hn⟩ := u32_nat w2
  by_cases h4 : s.size < 4
  · exact few s x n w w0 h4
  · by_cases h : 4096 < s.size
    · exact many s x n w w0 h
    · by_cases hz : n = 0
      · subst hz; exact zero s x w (by omega) (by omega)
      · exact main s x n w (by omega) (by omega) hz hn

theorem own : ownKnob Try.prog.godebug = none := by kernel_rfl

set_option maxRecDepth 100000 in
theorem lifted (os : Os) (started : os.Started) (H : Type) (enc : TypeId × Value → H) :
    ReturnsInHanded {} Try.checked os 5 .any (Rows.crcTellsSpec.pre6 enc Try.prog Try.f5 Rows.crcTellsRow.domain false) (Rows.crcTellsSpec.post enc Try.prog Try.f5 false true false false) := by
  refine returnsInHanded_of_change (C := Try.checked) own started (by kernel_rfl) Try.func5
    (ChangeSpec.witness6 (enc := enc) (C := Try.checked) false ⟨#[], #[.string ByteArray.empty, .int .i64 0, .int .u32 0], []⟩ 8 (by kernel_rfl) (by kernel_rfl) (by kernel_rfl) (by kernel_rfl)) ?_
  intro W base args ds gs before hval0 hW hcnd _
  have hval : ∀ (j : Nat) t v, Try.f5.params[j]? = some t → args[j]? = some v → Value.okWide Try.prog W .any base t v := hval0
  have hW' := hW
  obtain ⟨p, q, hA0, hV, rfl, hfz, hnd⟩ := hW
  have hA : DataW.TrodAll enc Try.prog W 0 (fun _ => true) true Try.f5.params.toList args.toList ds p := hA0
  rw [Try.params5] at hA hval
  obtain ⟨v0, vs0, d0, ds0, p0, q0, hargs, rfl, rfl, h0, r0⟩ := trodAll_cons hA
  obtain ⟨v1, vs1, d1, ds1, p1, q1, rfl, rfl, rfl, h1, r1⟩ := trodAll_cons r0
  obtain ⟨v2, vs2, d2, ds2, p2, q2, rfl, rfl, rfl, h2, r2⟩ := trodAll_cons r1
  obtain ⟨rfl, rfl, rfl⟩ := trodAll_nil r2
  obtain rfl : args = #[v0, v1, v2] := by cases args; simp_all
  obtain ⟨rfl, rfl⟩ := trodVars_none hV
  obtain ⟨a0, rfl, rfl, rfl, w0⟩ := open_string Try.underlying9 (hval 0 9 v0 rfl rfl) h0
  obtain ⟨a1, rfl, rfl, rfl, w1⟩ := open_int Try.underlying3 (hval 1 3 v1 rfl rfl) h1
  obtain ⟨a2, rfl, rfl, rfl, w2⟩ := open_int Try.underlying23 (hval 2 23 v2 rfl rfl) h2
  clear hA0 hval0
  simp only [List.append_nil] at hW'
  refine (walk a0 a1 a2 w0 w1 w2 W).mono fun e W' ⟨he, bel⟩ => ?_
  subst he
  exact ⟨_, rfl, _, _, _, [], _, [], hW', trodAll_mk1 (shut_bool Try.underlying4 _), (trodAll_cons_mk (shut_string Try.underlying9 w0) (trodAll_cons_mk (shut_int Try.underlying3 w1) (trodAll_cons_mk (shut_int Try.underlying23 w2) trodAll_mk0))), rfl, bel.frame _, fun h => by cases h⟩

theorem over : Rows.crcTellsRow.holds Try.pinned (OpenSpec.ofChange Rows.crcTellsSpec) :=
  OpenClaim.holds_of_wide 5 Try.f5 rfl rfl rfl rfl rfl rfl rfl ⟨rfl, rfl, rfl, rfl, rfl⟩ rfl rfl rfl rfl rfl (by kernel_rfl) Try.func5 (by kernel_rfl)
    (of_decide_eq_true (by kernel_rfl)) (by unfold Func.isWrapper; first | (rw [if_pos (by decide +kernel)]; kernel_rfl) | (rw [if_neg (by decide +kernel)]; exact ⟨rfl, rfl⟩))
    (fun os started H enc _ => lifted os started H enc)

theorem proved : Rows.CrcTellsSaid :=
  over
#print axioms proved
end Go.Proofs.Ytgoplgipjnollaa.crcTells
