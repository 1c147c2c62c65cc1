/-
  Contracts of the document's answers of layer 1 for numbers: Undec, Unhexnum, Dec, Hexnum; and those of hexa brought to the same form.
-/
import Derived.Test.YtbngfphiachnoaaGreatDoorHxRefB
import Derived.Test.YtbngfphiachnoaaGreatDoorSet4
namespace Go.Proofs.YtbngfphiachnoaaGreatDoor.Hx
open Go.RowKit Go.PlainAid
set_option linter.unusedVariables false
set_option maxRecDepth 20000

/-- what is read as a number at most m -/
def Fits (v m : Int) : Prop := v ≤ m ∧ v ≤ 4611686018427387904
def NumPost (form : Prop) (v m : Int) (w : World) (e : Ending) (w' : World) : Prop :=
  ((¬ form ∧ e = .returned (.tuple #[.int .i64 0, .int .i64 3])) ∨ (form ∧ Fits v m ∧ e = .returned (.tuple #[.int .i64 v, .int .i64 0])) ∨ (form ∧ ¬ Fits v m ∧ e = .returned (.tuple #[.int .i64 0, .int .i64 14]))) ∧ w = w'

theorem decTo_first {s : ByteArray} {n : Nat} (h : AllDig s n) (h0 : 49 ≤ bt s 0) : ∀ k, k < n → (10 : Int) ^ k ≤ decTo s (k + 1)
  | 0, hk => by simp only [decTo]; have : (10 : Int) ^ 0 = 1 := by decide
                omega
  | k + 1, hk => by
    have ih := decTo_first h h0 k (by omega)
    have hd := h (k + 1) hk
    have e : (10 : Int) ^ (k + 1) = 10 ^ k * 10 := Int.pow_succ 10 k
    rw [decTo]
    omega
theorem decTo_long {s : ByteArray} (h : DecForm s) (hl : 19 < s.size) : 10000000000000000000 ≤ decTo s s.size := by
  have h0 := h.2.2 0 (by omega)
  have hne := h.2.1 (by omega)
  obtain ⟨k, hk⟩ : ∃ k, s.size = k + 1 := ⟨s.size - 1, by omega⟩
  have := decTo_first h.2.2 (by omega) k (by omega)
  rw [hk]
  have hp : (10 : Nat) ^ 19 ≤ 10 ^ k := Nat.pow_le_pow_right (by decide) (by omega)
  have hp' : (10 : Int) ^ 19 ≤ 10 ^ k := by exact_mod_cast hp
  have e : (10 : Int) ^ 19 = 10000000000000000000 := by decide
  omega

theorem undec_num (s : ByteArray) (m : Int) (w : World) (hs : s.size ≤ 100) (h2 : -9223372036854775808 ≤ m) (h3 : m ≤ 9223372036854775807) :
    Calls Tryz.prog 116 #[.string s, .int .i64 m] w (NumPost (DecForm s) (decTo s s.size) m w) := by
  by_cases hf : DecForm s
  · by_cases hl : 19 < s.size
    · have := decTo_long hf hl
      exact (undec_long s m w (by omega) hf hl).mono fun e w' ⟨he, hw⟩ => ⟨.inr (.inr ⟨hf, fun h => by have := h.2; omega, he⟩), hw⟩
    · have hb := decTo_fits hf.2.2 (by omega) s.size (Nat.le_refl _)
      refine (undec_short s m w hf (by omega) h2 h3).mono fun e w' ⟨he, hw⟩ => ⟨?_, hw⟩
      by_cases c : Fits (decTo s s.size) m
      · right; left
        refine ⟨hf, c, ?_⟩
        rw [he]
        unfold amN amE
        rw [if_pos ⟨by have := c.1; omega, c⟩, if_pos ⟨by have := c.1; omega, c⟩]
      · right; right
        refine ⟨hf, c, ?_⟩
        rw [he]
        unfold amN amE
        rw [if_neg (fun h => c h.2), if_neg (fun h => c h.2)]
  · exact (undec_form s m w (by omega) hf).mono fun e w' ⟨he, hw⟩ => ⟨.inl ⟨hf, he⟩, hw⟩

theorem unhexnum_num (s : ByteArray) (m : Int) (w : World) (hs : s.size ≤ 100) (h2 : -9223372036854775808 ≤ m) (h3 : m ≤ 9223372036854775807) :
    Calls Tryz.prog 121 #[.string s, .int .i64 m] w (NumPost (HexForm s) (hexTo s s.size) m w) := by
  by_cases hf : HexForm s
  · have hb := hexTo_bd s s.size
    refine (unhexnum_yes s m w hf h2 h3).mono fun e w' ⟨he, hw⟩ => ⟨?_, hw⟩
    by_cases c : Fits (hexTo s s.size) m
    · right; left
      refine ⟨hf, c, ?_⟩
      rw [he]
      unfold amN amE
      rw [if_pos ⟨by have := c.1; omega, c⟩, if_pos ⟨by have := c.1; omega, c⟩]
    · right; right
      refine ⟨hf, c, ?_⟩
      rw [he]
      unfold amN amE
      rw [if_neg (fun h => c h.2), if_neg (fun h => c h.2)]
  · exact (unhexnum_no s m w (by omega) hf h2 h3).mono fun e w' ⟨he, hw⟩ => ⟨.inl ⟨hf, he⟩, hw⟩

theorem rundec_empty (s : ByteArray) (m : Int) (w : World) (h : s.size = 0) :
    Calls Tryz.prog 56 #[.string s, .int .i64 m] w fun e w' => e = .returned (.tuple #[.int .i64 0, .int .i64 3]) ∧ w = w' := by
  have h1 := toList_nil s h
  clear h
  go_enter Tryz.func56, Tryz.ntmps56
  go_wp2
  go_ret2
  exact ⟨rfl, rfl⟩
theorem rundec_zero (s : ByteArray) (m : Int) (w : World) (h : 1 < s.size) (h48 : bt s 0 = 48) :
    Calls Tryz.prog 56 #[.string s, .int .i64 m] w fun e w' => e = .returned (.tuple #[.int .i64 0, .int .i64 3]) ∧ w = w' := by
  have h1 := toList_ne s (by omega)
  have h2 := toList_ne' s (by omega)
  have hb := get_bt s
  have h3 : (bt s 0 == 48) = true := by rw [h48]; rfl
  clear h48
  go_enter Tryz.func56, Tryz.ntmps56
  go_wp2
  go_ret2
  exact ⟨rfl, rfl⟩

/-- what the loop of Undec knows -/
def Great (s : ByteArray) (k : Nat) (n : Int) (g : Bool) : Prop :=
  (g = true ∧ 4611686018427387904 < decTo s k) ∨ (g = false ∧ n = decTo s k ∧ decTo s k ≤ 4611686018427387909)
theorem Great.stay {s : ByteArray} {k : Nat} {n : Int} (h : Great s k n true) (h0 : 48 ≤ bt s k) : Great s (k + 1) n true := by
  rcases h with h | h
  · left; refine ⟨rfl, ?_⟩; rw [decTo]; omega
  · cases h.1
theorem Great.turn {s : ByteArray} {k : Nat} {n : Int} (h : Great s k n false) (h0 : 48 ≤ bt s k) (hn : 461168601842738790 < n) : Great s (k + 1) n true := by
  rcases h with h | h
  · cases h.1
  · left; refine ⟨rfl, ?_⟩; rw [decTo]; omega
theorem Great.next {s : ByteArray} {k : Nat} {n : Int} (h : Great s k n false) (h1 : bt s k ≤ 57) (hn : n ≤ 461168601842738790) : Great s (k + 1) (n * 10 + (bt s k - 48)) false := by
  rcases h with h | h
  · cases h.1
  · right; refine ⟨rfl, ?_, ?_⟩ <;> rw [decTo] <;> omega
theorem Great.bd {s : ByteArray} {k : Nat} {n : Int} (h : Great s k n false) (hd : AllDig s k) : 0 ≤ n ∧ n ≤ 4611686018427387909 := by
  have := (decTo_bd hd k (Nat.le_refl _)).1
  rcases h with h | h
  · cases h.1
  · omega

theorem rundec_loop (s : ByteArray) (m : Int) (w : World) (hs : s.size ≤ 100) (h : 0 < s.size) (h2 : -9223372036854775808 ≤ m) (h3 : m ≤ 9223372036854775807) (hc : s.size ≤ 1 ∨ (1 < s.size ∧ (bt s 0 == 48) = false)) :
    Calls Tryz.prog 56 #[.string s, .int .i64 m] w (NumPost (DecForm s) (decTo s s.size) m w) := by
  have h1 := toList_ne s h
  have h1' := toList_ne' s h
  have hb := get_bt s
  have hz : 1 < s.size → bt s 0 ≠ 48 := by
    rcases hc with hc | ⟨_, hc⟩
    · omega
    · intro _; simpa using hc
  have Hz := Lib.hid hz
  clear hz
  rcases hc with hc | ⟨hc, hc2⟩
  all_goals
    go_enter Tryz.func56, Tryz.ntmps56
    go_wp2
    go_loop [6, 7, 8] (fun n g i => ∃ (k : Nat) (N : Int) (G : Bool), k ≤ s.size ∧ i = .int .i64 k ∧ n = .int .i64 N ∧ g = .bool G ∧ AllDig s k ∧ Great s k N G) (fun _ _ i => s.size - (intOf i).toNat)
    case atStart => exact ⟨0, 0, false, Nat.zero_le _, rfl, rfl, rfl, AllDig.zero s, .inr ⟨rfl, rfl, show (0 : Int) ≤ 4611686018427387909 by decide⟩⟩
    case round =>
      obtain ⟨k, N, G, hk, rfl, rfl, rfl, hd, hg⟩ := hrel
      have b0 := bt_nonneg s k
      have b1 := bt_le s k
      by_cases hlt : k < s.size
      · by_cases c1 : bt s k < 48
        · go_wp2
          go_ret2
          exact ⟨.inl ⟨fun h => (by have := (h.2.2 k hlt).1; omega), rfl⟩, rfl⟩
        · by_cases c2 : 57 < bt s k
          · go_wp2
            go_ret2
            exact ⟨.inl ⟨fun h => (by have := (h.2.2 k hlt).2; omega), rfl⟩, rfl⟩
          · cases G with
            | true =>
              go_wp2
              go_round
              case rel => exact ⟨k + 1, N, true, by omega, by go_num, rfl, rfl, hd.succ (by omega) (by omega), hg.stay (by omega)⟩
              case measure => simp [intOf]; omega
            | false =>
              obtain ⟨n0, n1⟩ := hg.bd hd
              by_cases c3 : 461168601842738790 < N
              · go_wp2
                go_round
                case rel => exact ⟨k + 1, N, true, by omega, by go_num, rfl, rfl, hd.succ (by omega) (by omega), hg.turn (by omega) c3⟩
                case measure => simp [intOf]; omega
              · go_wp2
                go_round
                case rel => exact ⟨k + 1, N * 10 + (bt s k - 48), false, by omega, by go_num, rfl, rfl, hd.succ (by omega) (by omega), hg.next (by omega) (by omega)⟩
                case measure => simp [intOf]; omega
      · have e : k = s.size := by omega
        have hf : DecForm s := ⟨h, Hz.out, e ▸ hd⟩
        rw [e] at hg
        have HF := Lib.hid hf
        clear e hf
        cases G with
        | true =>
          have hv : 4611686018427387904 < decTo s s.size := hg.elim (fun x => x.2) (fun x => by cases x.1)
          go_wp2
          go_ret2
          exact ⟨.inr (.inr ⟨HF.out, fun h => (by have := h.2; omega), rfl⟩), rfl⟩
        | false =>
          have hv : N = decTo s s.size := hg.elim (fun x => by cases x.1) (fun x => x.2.1)
          have HV := Lib.hid hv
          obtain ⟨n0, n1⟩ := (hv ▸ hg).bd HF.out.2.2
          clear hv
          by_cases c1 : m < N
          · go_wp2
            go_ret2
            exact ⟨.inr (.inr ⟨HF.out, fun h => (by have := h.1; have := HV.out; omega), rfl⟩), rfl⟩
          · by_cases c2 : 4611686018427387904 < N
            · go_wp2
              go_ret2
              exact ⟨.inr (.inr ⟨HF.out, fun h => (by have := h.2; have := HV.out; omega), rfl⟩), rfl⟩
            · go_wp2
              go_ret2
              exact ⟨.inr (.inl ⟨HF.out, ⟨by have := HV.out; omega, by have := HV.out; omega⟩, by rw [← HV.out]; rfl⟩), rfl⟩

theorem rundec_num (s : ByteArray) (m : Int) (w : World) (hs : s.size ≤ 100) (h2 : -9223372036854775808 ≤ m) (h3 : m ≤ 9223372036854775807) :
    Calls Tryz.prog 56 #[.string s, .int .i64 m] w (NumPost (DecForm s) (decTo s s.size) m w) := by
  by_cases h : s.size = 0
  · exact (rundec_empty s m w h).mono fun e w' ⟨he, hw⟩ => ⟨.inl ⟨fun h' => by have := h'.1; omega, he⟩, hw⟩
  · by_cases h1 : 1 < s.size
    · by_cases h48 : bt s 0 = 48
      · exact (rundec_zero s m w h1 h48).mono fun e w' ⟨he, hw⟩ => ⟨.inl ⟨fun h' => h'.2.1 h1 h48, he⟩, hw⟩
      · exact rundec_loop s m w hs (by omega) h2 h3 (.inr ⟨h1, by simpa using h48⟩)
    · exact rundec_loop s m w hs (by omega) h2 h3 (.inl (by omega))

theorem runhexnum_size (s : ByteArray) (m : Int) (w : World) (h : s.size = 0 ∨ 16 < s.size) (hs : s.size ≤ 100) :
    Calls Tryz.prog 84 #[.string s, .int .i64 m] w fun e w' => e = .returned (.tuple #[.int .i64 0, .int .i64 3]) ∧ w = w' := by
  rcases h with h | h
  · have h1 := toList_nil s h
    clear h
    go_enter Tryz.func84, Tryz.ntmps84
    go_wp2
    go_ret2
    exact ⟨rfl, rfl⟩
  · have h1 := toList_ne s (by omega)
    have h1' := toList_ne' s (by omega)
    go_enter Tryz.func84, Tryz.ntmps84
    go_wp2
    go_ret2
    exact ⟨rfl, rfl⟩
theorem runhexnum_loop (s : ByteArray) (m : Int) (w : World) (h : 0 < s.size) (h16 : s.size ≤ 16) (h2 : -9223372036854775808 ≤ m) (h3 : m ≤ 9223372036854775807) :
    Calls Tryz.prog 84 #[.string s, .int .i64 m] w (NumPost (HexForm s) (hexTo s s.size) m w) := by
  have hb := get_bt s
  have h1 := toList_ne s h
  have h1' := toList_ne' s h
  go_enter Tryz.func84, Tryz.ntmps84
  go_wp2
  go_loop [6, 7] (fun n i => ∃ k : Nat, k ≤ s.size ∧ i = .int .i64 k ∧ AllHex s k ∧ n = .int .u64 (hexTo s k)) (fun _ i => s.size - (intOf i).toNat)
  case atStart => exact ⟨0, Nat.zero_le _, rfl, AllHex.zero s, rfl⟩
  case round =>
    obtain ⟨k, hk, rfl, ha, rfl⟩ := hrel
    have b0 := bt_nonneg s k
    have b1 := bt_le s k
    by_cases hlt : k < s.size
    · obtain ⟨d0, d1⟩ := hexTo_small s k (by omega)
      obtain ⟨v0, v1⟩ := av_bd (bt s k)
      cases c : aok (bt s k) with
      | true =>
        have C := Lib.hid c
        clear c
        go_wp2_with fail
        refine (value_yes _ _ b0 b1 C.out).mono ?_
        rintro e w' ⟨rfl, rfl⟩
        go_wp2_with fail
        refine (value_yes _ _ b0 b1 C.out).mono ?_
        rintro e w' ⟨rfl, rfl⟩
        go_wp2
        go_round
        case rel => exact ⟨k + 1, by omega, by go_num, ha.succ C.out, rfl⟩
        case measure => simp [intOf]; omega
      | false =>
        have C := Lib.hid c
        clear c
        go_wp2_with fail
        refine (value_no _ _ b0 b1 C.out).mono ?_
        rintro e w' ⟨rfl, rfl⟩
        go_wp2
        go_ret2
        exact ⟨.inl ⟨fun h => (by have := h.2.2 k hlt; rw [C.out] at this; cases this), rfl⟩, rfl⟩
    · have e : k = s.size := by omega
      obtain ⟨d0, d1⟩ := hexTo_fits s k (by omega)
      have hf : HexForm s := ⟨h, h16, e ▸ ha⟩
      have HF := Lib.hid hf
      have E := Lib.hid e
      clear e hf
      by_cases c1 : 4611686018427387904 < hexTo s k
      · go_wp2
        go_ret2
        exact ⟨.inr (.inr ⟨HF.out, fun h => (by have := h.2; rw [← E.out] at this; omega), rfl⟩), rfl⟩
      · by_cases c2 : m < hexTo s k
        · go_wp2
          go_ret2
          exact ⟨.inr (.inr ⟨HF.out, fun h => (by have := h.1; rw [← E.out] at this; omega), rfl⟩), rfl⟩
        · go_wp2
          go_ret2
          exact ⟨.inr (.inl ⟨HF.out, ⟨by rw [← E.out]; omega, by rw [← E.out]; omega⟩, by rw [← E.out]; rfl⟩), rfl⟩
theorem runhexnum_num (s : ByteArray) (m : Int) (w : World) (hs : s.size ≤ 100) (h2 : -9223372036854775808 ≤ m) (h3 : m ≤ 9223372036854775807) :
    Calls Tryz.prog 84 #[.string s, .int .i64 m] w (NumPost (HexForm s) (hexTo s s.size) m w) := by
  by_cases h : 0 < s.size ∧ s.size ≤ 16
  · exact runhexnum_loop s m w h.1 h.2 h2 h3
  · exact (runhexnum_size s m w (by omega) hs).mono fun e w' ⟨he, hw⟩ => ⟨.inl ⟨fun hf => h ⟨hf.1, hf.2.1⟩, he⟩, hw⟩
end Go.Proofs.YtbngfphiachnoaaGreatDoor.Hx
