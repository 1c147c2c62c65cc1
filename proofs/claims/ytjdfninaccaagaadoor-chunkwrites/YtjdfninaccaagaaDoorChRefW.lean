/-
  Contract of Write of the document's answers.
-/
import Derived.Test.YtjdfninaccaagaaDoorChWr
import Derived.Test.YtjdfninaccaagaaDoorHxRefD
namespace Go.Proofs.YtjdfninaccaagaaDoor.Ch
open Go.RowKit Go.PlainAid
open Hx Fi
set_option linter.unusedVariables false
set_option maxRecDepth 20000
set_option linter.unusedSimpArgs false

/-- where the walk of the document's Write stands -/
structure RwInv (b : Nat) (s : ByteArray) (i : Nat) (O : ByteArray) : Prop where
  eq : ls O ++ wrt b ((ls s).drop i) = wrt b (ls s)
theorem RwInv.room {b : Nat} {s : ByteArray} {i : Nat} {O : ByteArray} (h : RwInv b s i O) (hs : s.size ≤ 1048576) : O.size ≤ 34359738368 := by
  have e := congrArg List.length h.eq
  rw [List.length_append, ls_len] at e
  have := wrt_len b (ls s).length (ls s) (Nat.le_refl _) (by rw [ls_len]; omega)
  rw [ls_len] at this
  omega
theorem RwInv.done {b : Nat} {s : ByteArray} {i : Nat} {O : ByteArray} (h : RwInv b s i O) (hi : s.size ≤ i) : tx (wrt b (ls s)) = O ++ ⟨#[48, 13, 10, 13, 10]⟩ := by
  have e := h.eq
  rw [List.drop_of_length_le (by rw [ls_len]; exact hi), wrt_nil] at e
  rw [← e]
  exact ls_inj (by rw [ls_tx, ls_append]; rfl)
/-- a chunk more -/
theorem RwInv.next {b : Nat} {s : ByteArray} {i j n : Nat} {O : ByteArray} (h : RwInv b s i O) (hi : i < s.size) (hj : j = min (i + (b + 1)) s.size) (hn : n = j - i) : RwInv b s (i + (b + 1)) (O ++ tx (digL 14 n) ++ ⟨#[13, 10]⟩ ++ s.extract i j ++ ⟨#[13, 10]⟩) := by
  have hl : ((ls s).drop i).length = s.size - i := by rw [List.length_drop, ls_len]
  have hne : (ls s).drop i ≠ [] := fun e => by rw [e] at hl; simp at hl; omega
  have e := h.eq
  have hx : ls (s.extract i j) = ((ls s).drop i).take (b + 1) := by
    rw [ls_extract]
    by_cases c : i + (b + 1) ≤ s.size
    · rw [show j - i = b + 1 by omega]
    · rw [List.take_of_length_le (by rw [hl]; omega), List.take_of_length_le (by rw [hl]; omega)]
  rw [wrt_more b hne, hl, show min (b + 1) (s.size - i) = n by omega, List.drop_drop] at e
  refine ⟨?_⟩
  rw [← e]
  simp only [ls_append, ls_tx, hx, List.append_assoc]
  rfl
set_option maxHeartbeats 4000000 in
theorem rwrite_one (s : ByteArray) (m : Int) (b : Nat) (hB : 1 = b + 1) (h0 : 0 < s.size) (hm : m < 1) (w : World) (hs : s.size ≤ 1048576) :
    Calls Tryd.prog 16 #[.string s, .int .i64 m] w fun e w' => e = .returned (.string (tx (wrt b (ls s)))) ∧ w = w' := by
  have HS := Lib.hid hs
  have HB := Lib.hid hB
  have hb2 : 1 ≤ 1048576 := by omega
  have hb3 : 0 < 1 := by omega
  have i2 : ¬ (s.size : Int) < 1 := by omega
  clear hB
  have I0 : Hid (RwInv b s 0 ⟨#[]⟩) := Lib.hid ⟨rfl⟩
  go_enter Tryd.func16, Tryd.ntmps16
  go_wp2_with fail
  go_loop [5, 6] (fun o v => ∃ (i : Nat) (O : ByteArray), o = .string O ∧ v = .int .i64 i ∧ i ≤ s.size + 1 ∧ RwInv b s i O) (fun _ v => s.size - (intOf v).toNat)
  case atStart => exact ⟨0, ⟨#[]⟩, rfl, rfl, Nat.zero_le _, I0.out⟩
  case round =>
    clear I0
    obtain ⟨i, O, rfl, rfl, hib, I⟩ := hrel
    have hroom := I.room HS.out
    by_cases hlt : i < s.size
    · have l1 : (i : Int) < (s.size : Int) := by omega
      by_cases hc : s.size < i + 1
      · omega
      · have c1 : ¬ (s.size : Int) < (i : Int) + 1 := by omega
        obtain ⟨n, hn⟩ : ∃ n, n = (i + 1) - i := ⟨_, rfl⟩
        have sl : ∀ w, (Instr.slice 9 (.string s) (some (.int .i64 (i : Int))) (some (.int .i64 ((i : Int) + 1))) none).run Tryd.prog w = .ok (.string (s.extract i (i + 1))) w := fun w => by
          have h := run_slice_string (P := Tryd.prog) (w := w) 9 s .i64 .i64 (i : Int) ((i : Int) + 1) Tryd.underlying9 (by omega) (by omega) (by omega)
          rw [show (((i : Int) + 1)).toNat = (i + 1) by omega, show ((i : Int)).toNat = i by omega] at h
          exact h
        have ez : (s.extract i (i + 1)).size = n := by rw [ByteArray.size_extract]; omega
        have NX := Lib.hid (I.next hlt (j := (i + 1)) (n := n) (by have := HB.out; omega) hn)
        have rx := fun w => rhexnum_nat n w (by have := HS.out; omega)
        have dz : (tx (digL 14 n)).size ≤ 16 := digL_len 14 15 n (by
          have : (14 + 2) ^ (15 + 1) = 18446744073709551616 := by decide
          have := HS.out
          omega)
        rw [← HB.out] at NX
        have nz : n ≤ 1048576 := by have := HS.out; omega
        have Hn := Lib.hid hn
        clear hn I hc
        generalize hT : s.extract i (i + 1) = T at sl ez NX
        clear hT
        have D0 : (⟨(digL 14 n).toArray⟩ : ByteArray) = tx (digL 14 n) := rfl
        rw [D0] at rx
        generalize tx (digL 14 n) = D at rx dz NX
        clear D0
        go_wp2_with fail
        refine (rx _).mono ?_
        rintro e w' ⟨rfl, rfl⟩
        clear rx sl
        go_wp2
        go_round
        case rel => exact ⟨i + 1, _, rfl, by go_num, by omega, NX.out⟩
        case measure => simp [intOf]; omega
    · have l1 : ¬ (i : Int) < (s.size : Int) := by omega
      have e := I.done (by omega)
      have E := Lib.hid e
      clear e I
      go_wp2
      go_ret
      exact ⟨by rw [E.out]; rfl, rfl⟩
set_option maxHeartbeats 4000000 in
theorem rwrite_great (s : ByteArray) (m : Int) (b : Nat) (hB : s.size = b + 1) (h0 : 0 < s.size) (hm : 1 ≤ m) (hms : (s.size : Int) < m) (w : World) (hs : s.size ≤ 1048576) :
    Calls Tryd.prog 16 #[.string s, .int .i64 m] w fun e w' => e = .returned (.string (tx (wrt b (ls s)))) ∧ w = w' := by
  have HS := Lib.hid hs
  have HB := Lib.hid hB
  have hb2 : s.size ≤ 1048576 := by omega
  have hb3 : 0 < s.size := by omega
  have i2 : ¬ (s.size : Int) < 1 := by omega
  have i3 : ¬ m < 1 := by omega
  clear hB
  have I0 : Hid (RwInv b s 0 ⟨#[]⟩) := Lib.hid ⟨rfl⟩
  go_enter Tryd.func16, Tryd.ntmps16
  go_wp2_with fail
  go_loop [5, 6] (fun o v => ∃ (i : Nat) (O : ByteArray), o = .string O ∧ v = .int .i64 i ∧ i ≤ s.size + s.size ∧ RwInv b s i O) (fun _ v => s.size - (intOf v).toNat)
  case atStart => exact ⟨0, ⟨#[]⟩, rfl, rfl, Nat.zero_le _, I0.out⟩
  case round =>
    clear I0
    obtain ⟨i, O, rfl, rfl, hib, I⟩ := hrel
    have hroom := I.room HS.out
    by_cases hlt : i < s.size
    · have l1 : (i : Int) < (s.size : Int) := by omega
      by_cases hc : s.size < i + s.size
      · have c1 : (s.size : Int) < (i : Int) + (s.size : Int) := by omega
        obtain ⟨n, hn⟩ : ∃ n, n = s.size - i := ⟨_, rfl⟩
        have sl : ∀ w, (Instr.slice 9 (.string s) (some (.int .i64 (i : Int))) (some (.int .i64 (s.size : Int))) none).run Tryd.prog w = .ok (.string (s.extract i s.size)) w := fun w => by
          have h := run_slice_string (P := Tryd.prog) (w := w) 9 s .i64 .i64 (i : Int) (s.size : Int) Tryd.underlying9 (by omega) (by omega) (by omega)
          rw [show ((s.size : Int)).toNat = s.size by omega, show ((i : Int)).toNat = i by omega] at h
          exact h
        have ez : (s.extract i s.size).size = n := by rw [ByteArray.size_extract]; omega
        have NX := Lib.hid (I.next hlt (j := s.size) (n := n) (by have := HB.out; omega) hn)
        have rx := fun w => rhexnum_nat n w (by have := HS.out; omega)
        have dz : (tx (digL 14 n)).size ≤ 16 := digL_len 14 15 n (by
          have : (14 + 2) ^ (15 + 1) = 18446744073709551616 := by decide
          have := HS.out
          omega)
        rw [← HB.out] at NX
        have nz : n ≤ 1048576 := by have := HS.out; omega
        have Hn := Lib.hid hn
        clear hn I hc
        generalize hT : s.extract i s.size = T at sl ez NX
        clear hT
        have D0 : (⟨(digL 14 n).toArray⟩ : ByteArray) = tx (digL 14 n) := rfl
        rw [D0] at rx
        generalize tx (digL 14 n) = D at rx dz NX
        clear D0
        go_wp2_with fail
        refine (rx _).mono ?_
        rintro e w' ⟨rfl, rfl⟩
        clear rx sl
        go_wp2
        go_round
        case rel => exact ⟨i + s.size, _, rfl, by go_num, by omega, NX.out⟩
        case measure => simp [intOf]; omega
      · have c1 : ¬ (s.size : Int) < (i : Int) + (s.size : Int) := by omega
        obtain ⟨n, hn⟩ : ∃ n, n = (i + s.size) - i := ⟨_, rfl⟩
        have sl : ∀ w, (Instr.slice 9 (.string s) (some (.int .i64 (i : Int))) (some (.int .i64 ((i : Int) + (s.size : Int)))) none).run Tryd.prog w = .ok (.string (s.extract i (i + s.size))) w := fun w => by
          have h := run_slice_string (P := Tryd.prog) (w := w) 9 s .i64 .i64 (i : Int) ((i : Int) + (s.size : Int)) Tryd.underlying9 (by omega) (by omega) (by omega)
          rw [show (((i : Int) + (s.size : Int))).toNat = (i + s.size) by omega, show ((i : Int)).toNat = i by omega] at h
          exact h
        have ez : (s.extract i (i + s.size)).size = n := by rw [ByteArray.size_extract]; omega
        have NX := Lib.hid (I.next hlt (j := (i + s.size)) (n := n) (by have := HB.out; omega) hn)
        have rx := fun w => rhexnum_nat n w (by have := HS.out; omega)
        have dz : (tx (digL 14 n)).size ≤ 16 := digL_len 14 15 n (by
          have : (14 + 2) ^ (15 + 1) = 18446744073709551616 := by decide
          have := HS.out
          omega)
        rw [← HB.out] at NX
        have nz : n ≤ 1048576 := by have := HS.out; omega
        have Hn := Lib.hid hn
        clear hn I hc
        generalize hT : s.extract i (i + s.size) = T at sl ez NX
        clear hT
        have D0 : (⟨(digL 14 n).toArray⟩ : ByteArray) = tx (digL 14 n) := rfl
        rw [D0] at rx
        generalize tx (digL 14 n) = D at rx dz NX
        clear D0
        go_wp2_with fail
        refine (rx _).mono ?_
        rintro e w' ⟨rfl, rfl⟩
        clear rx sl
        go_wp2
        go_round
        case rel => exact ⟨i + s.size, _, rfl, by go_num, by omega, NX.out⟩
        case measure => simp [intOf]; omega
    · have l1 : ¬ (i : Int) < (s.size : Int) := by omega
      have e := I.done (by omega)
      have E := Lib.hid e
      clear e I
      go_wp2
      go_ret
      exact ⟨by rw [E.out]; rfl, rfl⟩
set_option maxHeartbeats 4000000 in
theorem rwrite_some (s : ByteArray) (b B : Nat) (hB : B = b + 1) (h0 : 0 < s.size) (hms : B ≤ s.size) (w : World) (hs : s.size ≤ 1048576) :
    Calls Tryd.prog 16 #[.string s, .int .i64 (B : Int)] w fun e w' => e = .returned (.string (tx (wrt b (ls s)))) ∧ w = w' := by
  have HS := Lib.hid hs
  have HB := Lib.hid hB
  have hb2 : B ≤ 1048576 := by omega
  have hb3 : 0 < B := by omega
  have i2 : ¬ (s.size : Int) < 1 := by omega
  have i3 : ¬ (B : Int) < 1 := by omega
  have i4 : ¬ (s.size : Int) < (B : Int) := by omega
  have j3 : ¬ B < 1 := by omega
  have j4 : ¬ s.size < B := by omega
  clear hB
  have I0 : Hid (RwInv b s 0 ⟨#[]⟩) := Lib.hid ⟨rfl⟩
  go_enter Tryd.func16, Tryd.ntmps16
  go_wp2_with fail
  go_loop [5, 6] (fun o v => ∃ (i : Nat) (O : ByteArray), o = .string O ∧ v = .int .i64 i ∧ i ≤ s.size + B ∧ RwInv b s i O) (fun _ v => s.size - (intOf v).toNat)
  case atStart => exact ⟨0, ⟨#[]⟩, rfl, rfl, Nat.zero_le _, I0.out⟩
  case round =>
    clear I0
    obtain ⟨i, O, rfl, rfl, hib, I⟩ := hrel
    have hroom := I.room HS.out
    by_cases hlt : i < s.size
    · have l1 : (i : Int) < (s.size : Int) := by omega
      by_cases hc : s.size < i + B
      · have c1 : (s.size : Int) < (i : Int) + (B : Int) := by omega
        obtain ⟨n, hn⟩ : ∃ n, n = s.size - i := ⟨_, rfl⟩
        have sl : ∀ w, (Instr.slice 9 (.string s) (some (.int .i64 (i : Int))) (some (.int .i64 (s.size : Int))) none).run Tryd.prog w = .ok (.string (s.extract i s.size)) w := fun w => by
          have h := run_slice_string (P := Tryd.prog) (w := w) 9 s .i64 .i64 (i : Int) (s.size : Int) Tryd.underlying9 (by omega) (by omega) (by omega)
          rw [show ((s.size : Int)).toNat = s.size by omega, show ((i : Int)).toNat = i by omega] at h
          exact h
        have ez : (s.extract i s.size).size = n := by rw [ByteArray.size_extract]; omega
        have NX := Lib.hid (I.next hlt (j := s.size) (n := n) (by have := HB.out; omega) hn)
        have rx := fun w => rhexnum_nat n w (by have := HS.out; omega)
        have dz : (tx (digL 14 n)).size ≤ 16 := digL_len 14 15 n (by
          have : (14 + 2) ^ (15 + 1) = 18446744073709551616 := by decide
          have := HS.out
          omega)
        rw [← HB.out] at NX
        have nz : n ≤ 1048576 := by have := HS.out; omega
        have Hn := Lib.hid hn
        clear hn I hc
        generalize hT : s.extract i s.size = T at sl ez NX
        clear hT
        have D0 : (⟨(digL 14 n).toArray⟩ : ByteArray) = tx (digL 14 n) := rfl
        rw [D0] at rx
        generalize tx (digL 14 n) = D at rx dz NX
        clear D0
        go_wp2_with fail
        refine (rx _).mono ?_
        rintro e w' ⟨rfl, rfl⟩
        clear rx sl
        go_wp2
        go_round
        case rel => exact ⟨i + B, _, rfl, by go_num, by omega, NX.out⟩
        case measure => simp [intOf]; omega
      · have c1 : ¬ (s.size : Int) < (i : Int) + (B : Int) := by omega
        obtain ⟨n, hn⟩ : ∃ n, n = (i + B) - i := ⟨_, rfl⟩
        have sl : ∀ w, (Instr.slice 9 (.string s) (some (.int .i64 (i : Int))) (some (.int .i64 ((i : Int) + (B : Int)))) none).run Tryd.prog w = .ok (.string (s.extract i (i + B))) w := fun w => by
          have h := run_slice_string (P := Tryd.prog) (w := w) 9 s .i64 .i64 (i : Int) ((i : Int) + (B : Int)) Tryd.underlying9 (by omega) (by omega) (by omega)
          rw [show (((i : Int) + (B : Int))).toNat = (i + B) by omega, show ((i : Int)).toNat = i by omega] at h
          exact h
        have ez : (s.extract i (i + B)).size = n := by rw [ByteArray.size_extract]; omega
        have NX := Lib.hid (I.next hlt (j := (i + B)) (n := n) (by have := HB.out; omega) hn)
        have rx := fun w => rhexnum_nat n w (by have := HS.out; omega)
        have dz : (tx (digL 14 n)).size ≤ 16 := digL_len 14 15 n (by
          have : (14 + 2) ^ (15 + 1) = 18446744073709551616 := by decide
          have := HS.out
          omega)
        rw [← HB.out] at NX
        have nz : n ≤ 1048576 := by have := HS.out; omega
        have Hn := Lib.hid hn
        clear hn I hc
        generalize hT : s.extract i (i + B) = T at sl ez NX
        clear hT
        have D0 : (⟨(digL 14 n).toArray⟩ : ByteArray) = tx (digL 14 n) := rfl
        rw [D0] at rx
        generalize tx (digL 14 n) = D at rx dz NX
        clear D0
        go_wp2_with fail
        refine (rx _).mono ?_
        rintro e w' ⟨rfl, rfl⟩
        clear rx sl
        go_wp2
        go_round
        case rel => exact ⟨i + B, _, rfl, by go_num, by omega, NX.out⟩
        case measure => simp [intOf]; omega
    · have l1 : ¬ (i : Int) < (s.size : Int) := by omega
      have e := I.done (by omega)
      have E := Lib.hid e
      clear e I
      go_wp2
      go_ret
      exact ⟨by rw [E.out]; rfl, rfl⟩
theorem rwrite_nil (s : ByteArray) (m : Int) (w : World) (h0 : s.size = 0) (b : Nat) :
    Calls Tryd.prog 16 #[.string s, .int .i64 m] w fun e w' => e = .returned (.string (tx (wrt b (ls s)))) ∧ w = w' := by
  have E : tx (wrt b (ls s)) = ⟨#[48, 13, 10, 13, 10]⟩ := by rw [ls_empty h0, wrt_nil]; rfl
  rw [E]
  clear E
  go_enter Tryd.func16, Tryd.ntmps16
  go_wp2_with fail
  all_goals
    go_loop [5, 6] (fun o v => o = .string ⟨#[]⟩ ∧ v = .int .i64 0) (fun _ _ => 0)
    case atStart => exact ⟨rfl, rfl⟩
    case round =>
      obtain ⟨rfl, rfl⟩ := hrel
      go_wp2
      go_ret
      exact ⟨rfl, rfl⟩
/-- the document's Write answers what Write answers -/
theorem rwrite_any (s : ByteArray) (m : Int) (w : World) (hs : s.size ≤ 1048576) (h1 : -9223372036854775808 ≤ m) (h2 : m ≤ 9223372036854775807) :
    Calls Tryd.prog 16 #[.string s, .int .i64 m] w fun e w' => e = .returned (.string (tx (wrt (m.toNat - 1) (ls s)))) ∧ w = w' := by
  by_cases h0 : s.size = 0
  · exact rwrite_nil s m w h0 _
  · by_cases c : m < 1
    · rw [show m.toNat - 1 = 0 by omega]
      exact rwrite_one s m 0 rfl (by omega) c w hs
    · by_cases c2 : (s.size : Int) < m
      · have e : wrt (m.toNat - 1) (ls s) = wrt (s.size - 1) (ls s) := wrt_great (by rw [ls_len]; omega) (by rw [ls_len]; omega)
        rw [e]
        exact rwrite_great s m (s.size - 1) (by omega) (by omega) (by omega) c2 w hs
      · have := rwrite_some s (m.toNat - 1) m.toNat (by omega) (by omega) (by omega) w hs
        rwa [show ((m.toNat : Nat) : Int) = m by omega] at this
end Go.Proofs.YtjdfninaccaagaaDoor.Ch
