/-
  Contracts of the document's answers Dec and Hexnum.
-/
import Derived.Test.YtdldoklkenhopaaDoorHxCount
namespace Go.Proofs.YtdldoklkenhopaaDoor.Hx
open Go.RowKit Go.PlainAid
set_option linter.unusedVariables false
set_option maxRecDepth 20000

theorem sliceDg (w : World) (r : Int) (h0 : 0 ≤ r) (h1 : r < 16) :
    (Instr.sliceAt 9 (.string ⟨#[48, 49, 50, 51, 52, 53, 54, 55, 56, 57, 97, 98, 99, 100, 101, 102]⟩) (some (.int .i64 r)) (some (.int .i64 (r + 1))) none).run Tryd.prog w = .ok (.string ⟨[hd r.toNat].toArray⟩) w := by
  rw [run_sliceAt_string w 9 _ _ _ _ Tryd.underlying9, run_slice_string w 9 _ _ _ _ _ Tryd.underlying9 h0 (by omega) (by show r + 1 ≤ 16; omega)]
  obtain ⟨n, rfl⟩ := Int.eq_ofNat_of_zero_le h0
  have hn : n < 16 := by omega
  have : ∀ m : Fin 16, (⟨[48, 49, 50, 51, 52, 53, 54, 55, 56, 57, 97, 98, 99, 100, 101, 102].toArray⟩ : ByteArray).extract m.val (m.val + 1) = ⟨[hd m.val].toArray⟩ := by
    intro m
    rw [ByteArray.extract_mk]
    have : ∀ m : Fin 16, List.take (m.val + 1 - m.val) (List.drop m.val [48, 49, 50, 51, 52, 53, 54, 55, 56, 57, 97, 98, 99, 100, 101, 102]) = [hd m.val] := by decide
    rw [this]
  have e := this ⟨n, hn⟩
  rw [show ((n : Int) + 1).toNat = n + 1 by omega, show ((n : Int)).toNat = n by omega]
  simp only at e
  rw [e]

/-- what holds at each round: the digits of R are still to come -/
def ToCome (b n R : Nat) (ds : List UInt8) : Prop := digT b R ++ ds = digL b n
theorem ToCome.first (b n : Nat) : ToCome b n (n / (b + 2)) [hd (n % (b + 2))] := digL_step b n
theorem ToCome.next {b n R : Nat} {ds : List UInt8} (h : ToCome b n R ds) (hR : 0 < R) : ToCome b n (R / (b + 2)) (hd (R % (b + 2)) :: ds) := by
  unfold ToCome at h ⊢
  rw [← h, ← digT_step b R hR]; simp
theorem ToCome.last {b n : Nat} {ds : List UInt8} (h : ToCome b n 0 ds) : ds = digL b n := by
  unfold ToCome at h; simpa [digT_zero] using h
theorem ToCome.len {b n R : Nat} {ds : List UInt8} (h : ToCome b n R ds) : ds.length ≤ (digL b n).length := by
  rw [← h]; simp
theorem app_one (c : UInt8) (l : List UInt8) : (⟨[c].toArray⟩ : ByteArray) ++ ⟨l.toArray⟩ = ⟨(c :: l).toArray⟩ := by
  rw [ByteArray.mk_append_mk]; rfl

theorem app_one' (c : UInt8) (l : List UInt8) : (⟨#[c]⟩ : ByteArray) ++ ⟨l.toArray⟩ = ⟨(c :: l).toArray⟩ := app_one c l

set_option maxHeartbeats 400000 in
theorem rdec_pos (n : Nat) (w : World) (h1 : (n : Int) ≤ 9223372036854775807) :
    Calls Tryd.prog 19 #[.int .i64 n] w fun e w' => e = .returned (.string ⟨(digL 8 n).toArray⟩) ∧ w = w' := by
  have g : ((n : Int) == -9223372036854775808) = false := beq_eq_false_iff_ne.2 (by omega)
  have hl := dec_len n h1
  have hsl := sliceDg w ((n : Int) % 10) (by omega) (by omega)
  rw [show ((n : Int) % 10).toNat = n % 10 by omega] at hsl
  go_enter Tryd.func19, Tryd.ntmps19
  go_wp2
  clear hsl
  go_loop [0, 3] (fun r s => ∃ (R : Nat) (ds : List UInt8), (R : Int) ≤ 9223372036854775807 ∧ r = .int .i64 R ∧ s = .string ⟨ds.toArray⟩ ∧ ToCome 8 n R ds) (fun r _ => (intOf r).toNat)
  case atStart => exact ⟨n / 10, [hd (n % 10)], by omega, by go_num, rfl, ToCome.first 8 n⟩
  case round =>
    obtain ⟨R, ds, hR, rfl, rfl, hc⟩ := hrel
    have hdl := hc.len
    by_cases hpos : 0 < R
    · have hsl := sliceDg w ((R : Int) % 10) (by omega) (by omega)
      rw [show ((R : Int) % 10).toNat = R % 10 by omega] at hsl
      go_wp2
      go_round
      case rel => exact ⟨R / 10, hd (R % 10) :: ds, by omega, by go_num, by rw [app_one'], hc.next hpos⟩
      case measure => simp [intOf]; omega
    · have e : R = 0 := by omega
      subst e
      have E := Lib.hid hc.last
      clear hc
      go_wp2
      go_ret
      exact ⟨by rw [← E.out]; rfl, rfl⟩

theorem rdec_neg (n : Int) (w : World) (h0 : n < 0) (h1 : -9223372036854775808 ≤ n) :
    Calls Tryd.prog 19 #[.int .i64 n] w fun e w' => e = .returned (.string ⟨(45 :: digL 8 (-n).toNat).toArray⟩) ∧ w = w' := by
  by_cases hm : n = -9223372036854775808
  · subst hm
    rw [show (- -9223372036854775808 : Int).toNat = 9223372036854775808 by decide, aw5d]
    go_enter Tryd.func19, Tryd.ntmps19
    go_wp2
    go_ret
    exact ⟨rfl, rfl⟩
  · have g : (n == -9223372036854775808) = false := beq_eq_false_iff_ne.2 hm
    have h2 : -9223372036854775807 ≤ n := by omega
    have hl := dec_len (-n).toNat (by omega)
    clear hm
    go_enter Tryd.func19, Tryd.ntmps19
    go_wp2_with fail
    rw [show -n = (((-n).toNat : Nat) : Int) by omega]
    refine (rdec_pos (-n).toNat _ (by omega)).mono ?_
    rintro e w' ⟨rfl, rfl⟩
    go_wp2
    go_ret
    exact ⟨by rw [← app_one']; rfl, rfl⟩

theorem extr0 : (⟨#[48, 49, 50, 51, 52, 53, 54, 55, 56, 57, 97, 98, 99, 100, 101, 102]⟩ : ByteArray).extract 0 1 = ⟨(digL 14 0).toArray⟩ := by
  rw [digL_small 14 0 (by omega)]
  exact (ByteArray.extract_mk [48, 49, 50, 51, 52, 53, 54, 55, 56, 57, 97, 98, 99, 100, 101, 102] 0 1).trans (by decide)

end Go.Proofs.YtdldoklkenhopaaDoor.Hx
