/-
  Contracts of the document's answers of layer 1 for bytes: Value, Hex, Unhex.
-/
import Derived.Test.YtmfhokbognlhbaaHxBack
import Derived.Deep.RegionHeld3
namespace Go.Proofs.Ytmfhokbognlhbaa.Hx
open Go.RowKit Go.PlainAid
set_option linter.unusedVariables false

theorem value_yes (c : Int) (w : World) (h0 : 0 ≤ c) (h1 : c ≤ 255) (h : aok c = true) :
    Calls Try.prog 49 #[.int .u8 c] w fun e w' => e = .returned (.int .i64 (av c)) ∧ w = w' := by
  have hc : (65 ≤ c ∧ c ≤ 70) ∨ (48 ≤ c ∧ c ≤ 57) ∨ (97 ≤ c ∧ c ≤ 102) := by
    unfold aok sok at h; simp at h; omega
  rcases hc with hc | hc | hc
  · have e1 : av c = c - 65 + 10 := by unfold av; rw [if_pos hc]; omega
    rw [e1]; clear e1 h
    obtain ⟨a, b⟩ := hc
    go_enter Try.func49, Try.ntmps49
    go_wp2
    go_ret
    exact ⟨rfl, rfl⟩
  · have e1 : av c = c - 48 := by unfold av sv; rw [if_neg (by omega), if_pos hc]
    rw [e1]; clear e1 h
    obtain ⟨a, b⟩ := hc
    go_enter Try.func49, Try.ntmps49
    go_wp2
    go_ret
    exact ⟨rfl, rfl⟩
  · have e1 : av c = c - 97 + 10 := by unfold av sv; rw [if_neg (by omega), if_neg (by omega), if_pos hc]; omega
    rw [e1]; clear e1 h
    obtain ⟨a, b⟩ := hc
    go_enter Try.func49, Try.ntmps49
    go_wp2
    go_ret
    exact ⟨rfl, rfl⟩
theorem value_no (c : Int) (w : World) (h0 : 0 ≤ c) (h1 : c ≤ 255) (h : aok c = false) :
    Calls Try.prog 49 #[.int .u8 c] w fun e w' => e = .returned (.int .i64 (-1)) ∧ w = w' := by
  have hc : c < 48 ∨ (57 < c ∧ c < 65) ∨ (70 < c ∧ c < 97) ∨ 102 < c := by
    unfold aok sok at h; simp at h; omega
  clear h
  rcases hc with hc | hc | hc | hc
  all_goals
    (try obtain ⟨hc, hc2⟩ := hc)
    go_enter Try.func49, Try.ntmps49
    go_wp2
    go_ret
    exact ⟨rfl, rfl⟩

theorem made0 (w : World) : (w.alloc (.cells #[] 5)).ownsRow w.heap.size 5 1 (.slice (some ⟨w.heap.size, 0, none⟩) 0 0) 0 (bytesV []) :=
  World.ownsRow_made w #[] 0 (Nat.le_refl _) (Nat.zero_le _) rfl
/-- a row of the call's own, behind a callee that changes nothing that was there -/
theorem later {w w1 : World} {base n : Nat} {e : TypeId} {size : Nat} {v : Value} {xs : List Value} (h : w.ownsRow base e size v n xs) (hb : Below w.heap.size w w1) : w1.ownsRow base e size v n xs := by
  refine ⟨h.1, ?_⟩
  rcases h.2 with h2 | ⟨g, cap, cur, hv, hbg, hg, r⟩
  · exact .inl h2
  · refine .inr ⟨g, cap, cur, hv, hbg, ?_, r⟩
    have hlt : g < w.heap.size := by
      rcases Nat.lt_or_ge g w.heap.size with hlt | hge
      · exact hlt
      · rw [Array.getElem?_eq_none hge] at hg; cases hg
    rw [hb.block g hlt]; exact hg

set_option maxHeartbeats 800000 in
theorem rhex_any (s : ByteArray) (w : World) (hs : s.size ≤ 1099511627776) :
    Calls Try.prog 45 #[.string s] w fun e w' => e = .returned (.string ⟨(hexL s.data.toList).toArray⟩) ∧ Below w.heap.size w w' := by
  obtain ⟨i0, hi, hz0, hz1, hz2⟩ := info_parts info5
  have hb := get_bt s
  go_enter Try.func45, Try.ntmps45
  go_wp2
  go_loopw [3, 4] (fun v i wr => ∃ k : Nat, k ≤ s.size ∧ i = .int .i64 k ∧ wr.ownsRow w.heap.size 5 1 v (2 * k) (bytesV (hexL (s.data.toList.take k))) ∧ Below w.heap.size w wr) (fun _ i _ => s.size - (intOf i).toNat)
  case atStart => exact ⟨0, Nat.zero_le _, rfl, made0 w, (Below.refl _ _).alloc (Nat.le_refl _) _⟩
  case round =>
    obtain ⟨k, hk, rfl, hown, hbel⟩ := hrel
    by_cases hlt : k < s.size
    · have b0 := bt_nonneg s k
      have b1 := bt_le s k
      have i1 : (0 : Int) ≤ (k : Int) := Int.natCast_nonneg _
      have i2 : (k : Int) < (s.size : Int) := by omega
      have a15 : bits .and .u8 (bt s k) 15 = bt s k % 16 := u8_and15 _ b0 (by omega)
      have j1 : 0 ≤ bt s k / 16 ∧ bt s k / 16 < 16 := by omega
      have j2 : 0 ≤ bt s k % 16 ∧ bt s k % 16 < 16 := by omega
      have hsz : w.heap.size ≤ wr.heap.size := hbel.size
      have hdg := get_bt ⟨#[48, 49, 50, 51, 52, 53, 54, 55, 56, 57, 97, 98, 99, 100, 101, 102]⟩
      go_wp2
      go_region_held3 (fun _ => True) (trivial) ((refine step_append_lies _ (by rfl) _ _ _ (by rfl) w.heap.size 5 i0 _ 1 1 Try.underlying54 hi hz0 hz1 hz2 rfl (by omega) u3 (2 * k) _ (by rfl) ((hown.alloc _).drew) ⟨wr.heap.size, 0, none⟩ 2 2 [_, _] (by rfl) (by rfl) (World.news_of_block (cs := #[_, _]) (t := 5) (fr := (0, 0)) (heap_alloc_new wr _)) (by simp [Value.oneCell']) (by omega) (by unfold maxLen; omega) (by omega) (by simp; omega) (wr.heap.size + 1) (by simp) ?_; intro g cap w1 hown1 hgrow hat hlt1))
      all_goals
        have R := hex_step s k hlt hown1
        have L := ((hbel.alloc hsz _).drew).grown hgrow (by simp; omega) (fun j hj => (hown.lt j hj).1)
        clear hown1 hgrow hat hown
        go_wp2
        go_roundw
        case rel => exact ⟨k + 1, by omega, by go_num, R, L⟩
        case measure => simp [intOf]; omega
    · have e := take_all s k (by omega)
      have hcv := conv_row hown
      rw [e] at hcv
      clear e
      go_wp2
      go_ret
      exact ⟨rfl, hbel⟩

/-- the byte of two digits, great ones too -/
def vpair (s : ByteArray) (k : Nat) : UInt8 := UInt8.ofNat (16 * av (bt s (2 * k)) + av (bt s (2 * k + 1))).toNat
theorem vpair_nat (s : ByteArray) (k : Nat) : ((vpair s k).toNat : Int) = 16 * av (bt s (2 * k)) + av (bt s (2 * k + 1)) := by
  have a := av_bd (bt s (2 * k))
  have b := av_bd (bt s (2 * k + 1))
  unfold vpair
  rw [UInt8.toNat_ofNat']
  omega
def vTo (s : ByteArray) : Nat → List UInt8
  | 0 => []
  | k + 1 => vTo s k ++ [vpair s k]
theorem vTo_len (s : ByteArray) : ∀ k, (vTo s k).length = k
  | 0 => rfl
  | k + 1 => by simp [vTo, vTo_len s k]
theorem av_sok (c : Int) (h : sok c = true) : av c = sv c ∧ aok c = true := by
  unfold sok at h
  simp at h
  refine ⟨?_, ?_⟩
  · unfold av; rw [if_neg (by omega)]
  · unfold aok sok; simp; omega
theorem vTo_unTo (s : ByteArray) : ∀ k, AllSm s (2 * k) → vTo s k = unTo s k
  | 0, _ => rfl
  | k + 1, h => by
    rw [vTo, unTo, vTo_unTo s k (fun j hj => h j (by omega))]
    congr 2
    apply UInt8.toNat_inj.1
    have a := vpair_nat s k
    have b := pair_nat s k
    have c := (av_sok _ (h (2 * k) (by omega))).1
    have d := (av_sok _ (h (2 * k + 1) (by omega))).1
    omega

theorem runhex_step {B n : Nat} {v : Value} {w1 : World} (s : ByteArray) (k : Nat) (hown : w1.ownsRow B 5 1 v n (bytesV (vTo s k) ++ [.int .u8 (16 * av (bt s (2 * k)) + av (bt s (2 * k + 1)))])) :
    w1.ownsRow B 5 1 v n (bytesV (vTo s (k + 1))) := by
  simp only [vTo, bytesV_append]
  rw [← vpair_nat] at hown
  exact hown

/-- what the last test of Unhex comes to -/
theorem runhex_test (s : ByteArray) (k : Nat) (h : s.size ≤ 2 * k + 1) (h2 : 2 * k ≤ s.size) : (UnForm s ∧ hexL (vTo s k) = s.data.toList ∧ vTo s k = unTo s (s.size / 2)) ∨ (¬ UnForm s ∧ hexL (vTo s k) ≠ s.data.toList) := by
  by_cases hf : UnForm s
  · left
    have e := hf.1
    have ek : k = s.size / 2 := by omega
    have hv : vTo s k = unTo s (s.size / 2) := by rw [ek]; exact vTo_unTo s _ (fun j hj => hf.2 j (by omega))
    exact ⟨hf, by rw [hv]; exact hexL_back s hf, hv⟩
  · right
    refine ⟨hf, fun e => hf ?_⟩
    have := hexL_form (vTo s k)
    rw [e, mk_data] at this
    exact this

set_option maxHeartbeats 800000 in
theorem runhex_any (s : ByteArray) (w : World) (hs : s.size ≤ 1099511627776) :
    Calls Try.prog 42 #[.string s] w (UnhexPost s w) := by
  obtain ⟨i0, hi, hz0, hz1, hz2⟩ := info_parts info5
  have hb := get_bt s
  go_enter Try.func42, Try.ntmps42
  go_wp2
  go_loopw [4, 5] (fun v i wr => ∃ k : Nat, 2 * k ≤ s.size ∧ i = .int .i64 (2 * (k : Int)) ∧ wr.ownsRow w.heap.size 5 1 v k (bytesV (vTo s k)) ∧ Below w.heap.size w wr) (fun _ i _ => s.size - (intOf i).toNat)
  case atStart => exact ⟨0, Nat.zero_le _, rfl, made0 w, (Below.refl _ _).alloc (Nat.le_refl _) _⟩
  case round =>
    obtain ⟨k, hk, rfl, hown, hbel⟩ := hrel
    have hsz : w.heap.size ≤ wr.heap.size := hbel.size
    by_cases hlt : 2 * k + 1 < s.size
    · have p0 := bt_nonneg s (2 * k)
      have p1 := bt_le s (2 * k)
      have q0 := bt_nonneg s (2 * k + 1)
      have q1 := bt_le s (2 * k + 1)
      obtain ⟨v0, v1⟩ := av_bd (bt s (2 * k))
      obtain ⟨y0, y1⟩ := av_bd (bt s (2 * k + 1))
      have n1 : aok (bt s (2 * k)) = false → ¬ UnForm s := fun c h => by
        have := (av_sok _ (h.2 (2 * k) (by omega))).2; rw [c] at this; cases this
      have n2 : aok (bt s (2 * k + 1)) = false → ¬ UnForm s := fun c h => by
        have := (av_sok _ (h.2 (2 * k + 1) (by omega))).2; rw [c] at this; cases this
      have N1 := Lib.hid n1
      have N2 := Lib.hid n2
      clear n1 n2
      cases c1 : aok (bt s (2 * k)) with
      | false =>
        have C1 := Lib.hid c1
        clear c1
        cases c2 : aok (bt s (2 * k + 1)) with
        | false =>
          have C2 := Lib.hid c2
          clear c2
          go_wp2_with fail
          refine (value_no _ _ p0 p1 C1.out).mono ?_
          rintro e w' ⟨rfl, rfl⟩
          go_wp2_with fail
          refine (value_no _ _ q0 q1 C2.out).mono ?_
          rintro e w' ⟨rfl, rfl⟩
          go_wp2
          go_ret2
          exact ⟨.inr ⟨N1.out C1.out, rfl⟩, hbel⟩
        | true =>
          have C2 := Lib.hid c2
          clear c2
          go_wp2_with fail
          refine (value_no _ _ p0 p1 C1.out).mono ?_
          rintro e w' ⟨rfl, rfl⟩
          go_wp2_with fail
          refine (value_yes _ _ q0 q1 C2.out).mono ?_
          rintro e w' ⟨rfl, rfl⟩
          go_wp2
          go_ret2
          exact ⟨.inr ⟨N1.out C1.out, rfl⟩, hbel⟩
      | true =>
        have C1 := Lib.hid c1
        clear c1
        cases c2 : aok (bt s (2 * k + 1)) with
        | false =>
          have C2 := Lib.hid c2
          clear c2
          go_wp2_with fail
          refine (value_yes _ _ p0 p1 C1.out).mono ?_
          rintro e w' ⟨rfl, rfl⟩
          go_wp2_with fail
          refine (value_no _ _ q0 q1 C2.out).mono ?_
          rintro e w' ⟨rfl, rfl⟩
          go_wp2
          go_ret2
          exact ⟨.inr ⟨N2.out C2.out, rfl⟩, hbel⟩
        | true =>
          have C2 := Lib.hid c2
          clear c2
          go_wp2_with fail
          refine (value_yes _ _ p0 p1 C1.out).mono ?_
          rintro e w' ⟨rfl, rfl⟩
          go_wp2_with fail
          refine (value_yes _ _ q0 q1 C2.out).mono ?_
          rintro e w' ⟨rfl, rfl⟩
          go_wp2_with (at_builtin; refine wpList_append_lies _ rfl _ _ _ rfl w.heap.size 5 i0 _ 1 1 Try.underlying54 hi hz0 hz1 hz2 rfl (by omega) u4 k _ (by rfl) (hown.alloc _) ⟨wr.heap.size, 0, none⟩ 1 1 [_] (by rfl) (by rfl) (World.news_of_block (cs := #[_]) (t := 5) (fr := (0, 0)) (heap_alloc_new wr _)) (by simp [Value.oneCell']) (by omega) (by unfold maxLen; omega) (by omega) (by simp; omega) (wr.heap.size + 1) (by simp) ?_; intro g cap w1 hown1 hgrow hat hlt1)
          have R := runhex_step s k hown1
          have L := (hbel.alloc hsz _).grown hgrow (by simp; omega) (fun j hj => (hown.lt j hj).1)
          go_roundw
          case rel => exact ⟨k + 1, by omega, by go_num, R, L⟩
          case measure => simp [intOf]; omega
    · have T := Lib.hid (runhex_test s k (by omega) hk)
      have hcv := conv_row hown
      have hlen : (vTo s k).length ≤ 1099511627776 := by rw [vTo_len]; omega
      go_wp2_with fail
      refine (rhex_any ⟨(vTo s k).toArray⟩ _ hlen).mono ?_
      rintro e w1 ⟨rfl, hb1⟩
      clear hcv
      have hcv := conv_row (later hown hb1)
      have hb2 : Below w.heap.size w w1 := hbel.trans (hb1.mono hsz)
      rcases T.out with ⟨hf, e1, e2⟩ | ⟨hf, e1⟩
      · have HF := Lib.hid hf
        have E2 := Lib.hid e2
        have t1 : (hexL (vTo s k) == s.toList) = true := by rw [ByteArray.toList_eq, e1]; simp
        clear hf e1 e2 T
        go_wp2
        go_ret2
        exact ⟨.inl ⟨HF.out, by rw [← E2.out]; rfl⟩, hb2⟩
      · have HF := Lib.hid hf
        have t1 : (hexL (vTo s k) == s.toList) = false := by rw [ByteArray.toList_eq]; simpa using e1
        clear hf e1 T
        go_wp2
        go_ret2
        exact ⟨.inr ⟨HF.out, rfl⟩, hb2⟩
end Go.Proofs.Ytmfhokbognlhbaa.Hx
