/-
  Contracts of real.Quality and mancipleref05.Quality, whole: for every text of at most 2^40 bytes the weight that it is, or ErrForm.
-/
import Derived.Test.YtmfhokbognlhbaaRlQual
namespace Go.Proofs.Ytmfhokbognlhbaa.Rl
open Go.RowKit Go.PlainAid
open Hx
set_option linter.unusedVariables false

theorem bt_ext (s : ByteArray) (i k : Nat) : bt (s.extract i s.size) k = bt s (k + i) := by
  unfold bt
  have hz : (s.extract i s.size).size = s.size - i := by simp [ByteArray.size_extract]
  by_cases h : k + i < s.size
  · rw [dif_pos h, dif_pos (by omega)]
    rw [ByteArray.getElem_extract]
    congr 3
    omega
  · rw [dif_neg h, dif_neg (by omega)]
theorem bt_pre (s : ByteArray) (i k : Nat) (hi : i ≤ s.size) (h : k < i) : bt (s.extract 0 i) k = bt s k := by
  unfold bt
  have hz : (s.extract 0 i).size = i := by simp [ByteArray.size_extract]; omega
  rw [dif_pos (by omega), dif_pos (by omega), ByteArray.getElem_extract]
  congr 3
  omega
theorem one_eq (W : ByteArray) (c : UInt8) (h : W.size = 1) (hb : bt W 0 = (c.toNat : Int)) : W = ⟨#[c]⟩ := by
  cases W with | mk d =>
  have hd : d.size = 1 := h
  unfold bt at hb
  rw [dif_pos (by omega)] at hb
  congr 1
  apply Array.ext
  · simpa using hd
  · intro i h1 h2
    have : i = 0 := by omega
    subst this
    have : (d[0]'h1).toNat = c.toNat := Int.ofNat_inj.1 hb
    simpa using UInt8.toNat_inj.1 this
theorem one_beq (W : ByteArray) (c : UInt8) (h : ¬ (W.size = 1 ∧ bt W 0 = (c.toNat : Int))) : (W.toList == [c]) = false := by
  rw [beq_eq_false_iff_ne]
  intro e
  apply h
  rw [ByteArray.toList_eq] at e
  have : W = ⟨#[c]⟩ := by cases W with | mk d => congr 1; apply Array.toList_inj.1; rw [e]
  rw [this]
  exact ⟨rfl, rfl⟩

def QForm (s : ByteArray) : Prop := 1 ≤ s.size ∧ s.size ≤ 5 ∧ (bt s 0 = 48 ∨ bt s 0 = 49) ∧ (1 < s.size → bt s 1 = 46) ∧ QDig (bt s 0) (fun k => bt s (k + 2)) (s.size - 2)
def qN (s : ByteArray) : Int := qn (bt s 0) (fun k => bt s (k + 2)) (s.size - 2)
def QPost (s : ByteArray) (w : World) (e : Ending) (w' : World) : Prop :=
  ((QForm s ∧ e = .returned (.tuple #[.float .f64 (rat (qN s) (10 ^ (s.size - 2))), .int .i64 0])) ∨ (¬ QForm s ∧ e = .returned (.tuple #[.float .f64 0, .int .i64 3]))) ∧ Below w.heap.size w w'

theorem qp_post (s D : ByteArray) (w : World) (d : Int) (h : s.size ≤ 5) (h1 : 1 ≤ s.size) (hd : bt s 0 = d) (hd' : d = 48 ∨ d = 49) (h2 : 1 < s.size → bt s 1 = 46) (hs : D.size = s.size - 2) (hb : bt D = fun k => bt s (k + 2)) (e : Ending) (w' : World) (q : QP d D w e w') : QPost s w e w' := by
  unfold QP at q
  unfold QPost QForm qN
  rw [hb, hs] at q
  rw [hd]
  obtain ⟨q, hbel⟩ := q
  refine ⟨?_, hbel⟩
  rcases q with ⟨q1, q2⟩ | ⟨q1, q2⟩
  · exact .inl ⟨⟨h1, h, hd', h2, q1⟩, q2⟩
  · exact .inr ⟨fun ⟨_, _, _, _, q⟩ => q1 q, q2⟩

theorem quality_any (s : ByteArray) (w : World) (hs : s.size ≤ 1099511627776) : Calls Try.prog 24 #[.string s] w (QPost s w) := by
  rcases idx_cases s with ⟨hi, hno⟩ | ⟨i, hi, hlt, h46, hno⟩
  · have C : CutIs s s ⟨#[]⟩ false := fun w => cut_miss s w hs hi
    by_cases h0 : s.size = 1 ∧ bt s 0 = 48
    · have e : s = ⟨#[48]⟩ := one_eq s 48 h0.1 h0.2
      have C' : CutIs s ⟨#[48]⟩ ⟨#[]⟩ false := by intro w; have := C w; rw [e] at this ⊢; exact this
      refine (quality_loop48 s ⟨#[]⟩ false w C' (by decide)).mono fun e w' q => ?_
      refine qp_post s _ w 48 (by omega) (by omega) h0.2 (.inl rfl) (by omega) (by rw [h0.1]; rfl) ?_ e w' q
      funext k
      rw [bt_end _ (Nat.zero_le _), bt_end _ (by omega)]
    by_cases h1 : s.size = 1 ∧ bt s 0 = 49
    · have e : s = ⟨#[49]⟩ := one_eq s 49 h1.1 h1.2
      have C' : CutIs s ⟨#[49]⟩ ⟨#[]⟩ false := by intro w; have := C w; rw [e] at this ⊢; exact this
      refine (quality_loop49 s ⟨#[]⟩ false w C' (by decide)).mono fun e w' q => ?_
      refine qp_post s _ w 49 (by omega) (by omega) h1.2 (.inr rfl) (by omega) (by rw [h1.1]; rfl) ?_ e w' q
      funext k
      rw [bt_end _ (Nat.zero_le _), bt_end _ (by omega)]
    refine (quality_bad s s _ _ w C ⟨one_beq s 48 h0, one_beq s 49 h1⟩).mono fun e w' ⟨he, hb⟩ => ⟨.inr ⟨?_, he⟩, hb⟩
    rintro ⟨q1, q2, q3, q4, q5⟩
    by_cases c : s.size = 1
    · rcases q3 with q | q
      · exact h0 ⟨c, q⟩
      · exact h1 ⟨c, q⟩
    · exact hno 1 (by omega) (q4 (by omega))
  · have C : CutIs s (s.extract 0 i) (s.extract (i + 1) s.size) true := fun w => cut_hit s w hs i hi hlt
    have hz : (s.extract 0 i).size = i := by simp [ByteArray.size_extract]; omega
    have hz2 : (s.extract 2 s.size).size = s.size - 2 := by simp [ByteArray.size_extract]
    have hb2 : bt (s.extract 2 s.size) = fun k => bt s (k + 2) := by funext k; exact bt_ext s 2 k
    by_cases h0 : i = 1 ∧ bt s 0 = 48
    · obtain ⟨rfl, h0⟩ := h0
      have e : s.extract 0 1 = ⟨#[48]⟩ := one_eq _ 48 hz (by rw [bt_pre s 1 0 (by omega) (by omega)]; exact h0)
      rw [e] at C
      by_cases hl : s.size ≤ 5
      · refine (quality_loop48 s _ _ w C (by rw [hz2]; omega)).mono fun e w' q => ?_
        exact qp_post s _ w 48 hl (by omega) h0 (.inl rfl) (fun _ => h46) hz2 hb2 e w' q
      · refine (quality_long48 s _ _ w C (by rw [hz2]; omega) (by rw [hz2]; omega)).mono fun e w' ⟨he, hb⟩ => ⟨.inr ⟨fun q => hl q.2.1, he⟩, hb⟩
    by_cases h1 : i = 1 ∧ bt s 0 = 49
    · obtain ⟨rfl, h1⟩ := h1
      have e : s.extract 0 1 = ⟨#[49]⟩ := one_eq _ 49 hz (by rw [bt_pre s 1 0 (by omega) (by omega)]; exact h1)
      rw [e] at C
      by_cases hl : s.size ≤ 5
      · refine (quality_loop49 s _ _ w C (by rw [hz2]; omega)).mono fun e w' q => ?_
        exact qp_post s _ w 49 hl (by omega) h1 (.inr rfl) (fun _ => h46) hz2 hb2 e w' q
      · refine (quality_long49 s _ _ w C (by rw [hz2]; omega) (by rw [hz2]; omega)).mono fun e w' ⟨he, hb⟩ => ⟨.inr ⟨fun q => hl q.2.1, he⟩, hb⟩
    have n0 : ∀ c : UInt8, ¬ (i = 1 ∧ bt s 0 = (c.toNat : Int)) → ((s.extract 0 i).toList == [c]) = false := fun c h => one_beq _ c (fun ⟨a, b⟩ => h ⟨by omega, by rw [bt_pre s i 0 (by omega) (by omega)] at b; exact b⟩)
    refine (quality_bad s _ _ _ w C ⟨n0 48 h0, n0 49 h1⟩).mono fun e w' ⟨he, hb⟩ => ⟨.inr ⟨?_, he⟩, hb⟩
    rintro ⟨q1, q2, q3, q4, q5⟩
    have c0 : i ≠ 0 := by intro h; subst h; omega
    have c1 : i ≠ 1 := by
      intro h; rcases q3 with q | q
      · exact h0 ⟨h, q⟩
      · exact h1 ⟨h, q⟩
    exact hno 1 (by omega) (q4 (by omega))
end Go.Proofs.Ytmfhokbognlhbaa.Rl
