/-
  Contract of Write of package chunk.
-/
import Derived.Test.YtjdfninaccaagaaDoorChBld
namespace Go.Proofs.YtjdfninaccaagaaDoor.Ch
open Go.RowKit Go.PlainAid
open Hx Fi
set_option linter.unusedVariables false
set_option maxRecDepth 20000
set_option linter.unusedSimpArgs false

theorem wrt_len (b : Nat) : ∀ (k : Nat) (s : List UInt8), s.length ≤ k → (s.length : Int) ≤ 4611686018427387904 → (wrt b s).length ≤ 21 * s.length + 5
  | 0, s, hs, _ => by
    have : s = [] := List.eq_nil_of_length_eq_zero (by omega)
    subst this
    rw [wrt_nil]; simp
  | k + 1, s, hs, hz => by
    by_cases h : s = []
    · subst h; rw [wrt_nil]; simp
    · have h0 : 0 < s.length := List.length_pos_iff.2 h
      have ih := wrt_len b k (s.drop (b + 1)) (by rw [List.length_drop]; omega) (by rw [List.length_drop]; omega)
      have hd : (digL 14 (min (b + 1) s.length)).length ≤ 16 := digL_len 14 15 _ (by
        have : (14 + 2) ^ (15 + 1) = 18446744073709551616 := by decide
        omega)
      rw [wrt_more b h]
      simp only [List.length_append, List.length_take, List.length_drop, List.length_cons, List.length_nil] at ih ⊢
      omega
/-- where the walk of Write stands -/
structure WInv (w wr : World) (b : Nat) (s r : ByteArray) (out : List UInt8) : Prop where
  at_ : Wr wr w.heap.size (w.heap.size + 1) out
  bel : Below w.heap.size w wr
  eq : out ++ wrt b (ls r) = wrt b (ls s)
  le : r.size ≤ s.size
theorem WInv.room {w wr : World} {b : Nat} {s r : ByteArray} {out : List UInt8} (h : WInv w wr b s r out) (hs : s.size ≤ 1073741824) : out.length + (wrt b (ls r)).length ≤ 34359738368 := by
  have e := congrArg List.length h.eq
  rw [List.length_append] at e
  have := wrt_len b (ls s).length (ls s) (Nat.le_refl _) (by rw [ls_len]; omega)
  rw [ls_len] at this
  omega
set_option maxHeartbeats 4000000 in
theorem write_one (s : ByteArray) (m : Int) (w : World) (hs : s.size ≤ 1073741824) (c : m < 1) (h1 : -9223372036854775808 ≤ m) :
    Calls Tryd.prog 15 #[.string s, .int .i64 m] w fun e w' => e = .returned (.string (tx (wrt 0 (ls s)))) ∧ Below w.heap.size w w' := by
  obtain ⟨b, hb⟩ : ∃ b : Nat, b = 0 := ⟨0, rfl⟩
  rw [← hb]
  have I0 : Hid (WInv w (w.alloc (.cells #[.pointer none, .slice none 0 0] 54)) b s s []) := Lib.hid (by
    refine ⟨⟨by omega, by simp, .pointer none, .slice none 0 0, .inl rfl, heap_alloc_new w _, ?_⟩, (Below.refl _ _).alloc (Nat.le_refl _) _, rfl, Nat.le_refl _⟩
    exact ⟨rfl, .inl ⟨rfl, rfl⟩⟩)
  have HS := Lib.hid hs
  clear hs
  go_enter Tryd.func15, Tryd.ntmps15
  go_wp2_with fail
  have HB := Lib.hid hb
  clear hb
  go_loopw [0] (fun v wr => ∃ r : ByteArray, v = .string r ∧ ∃ out, WInv w wr b s r out) (fun v _ => Lib.strSize v)
  case atStart => exact ⟨s, rfl, [], I0.out⟩
  case round =>
    obtain ⟨r, rfl, out, I⟩ := hrel
    clear I0
    by_cases h0 : r.size = 0
    · have h1 := toList_nil r h0
      have hw : wrt b (ls r) = [48, 13, 10, 13, 10] := by rw [ls_empty h0, wrt_nil]
      have E := Lib.hid (by rw [← I.eq, hw] : wrt b (ls s) = out ++ [48, 13, 10, 13, 10])
      have room := I.room HS.out
      rw [hw] at room
      simp only [List.length_cons, List.length_nil] at room
      have c1 := string_any I.at_ ⟨#[48, 13, 10, 13, 10]⟩ (by show out.length + 5 ≤ _; omega)
      have B0 := I.bel
      clear h0 hw I
      go_wp2_with fail
      refine c1.mono ?_
      rintro e w2 ⟨rfl, A2, k2⟩
      clear c1
      have B2 := k2.below B0 (Nat.le_succ _) (Nat.le_refl _)
      have c2 := text_any A2 (by simp [ls]) (by rw [List.length_append]; show _ + 5 ≤ _; omega)
      rw [show out ++ ls ⟨#[48, 13, 10, 13, 10]⟩ = wrt b (ls s) from E.out.symm] at c2
      generalize hT : tx (wrt b (ls s)) = T at c2
      have HT := Lib.hid hT
      clear hT
      clear B0 k2 A2 room
      go_wp2_with fail
      refine c2.mono ?_
      rintro e w3 ⟨rfl, A3, k3⟩
      have B3 := k3.below B2 (Nat.le_succ _) (Nat.le_refl _)
      clear c2 A3 k3 B2
      go_wp2
      go_ret
      exact ⟨by rw [HT.out]; rfl, B3⟩
    · have hp : 0 < r.size := by omega
      have h1 := toList_ne r hp
      have h2 := toList_ne' r hp
      have hne : ls r ≠ [] := ls_ne hp
      have hm := wrt_more b hne
      rw [ls_len] at hm
      have hsz := HS.out
      have hle := I.le
      have i1 : ¬ (r.size : Int) < 1 := by omega
      have i2 : (1 : Int) ≤ (r.size : Int) := by omega
      have hx : ∀ w, Calls Tryd.prog 27 #[.int .i64 (1 : Int)] w fun e w' => e = .returned (.string (tx (digL 14 1))) ∧ Below w.heap.size w w' := fun w => hexnum_any 1 w (by omega)
      rw [show min (b + 1) r.size = 1 by have := HB.out; omega, show b + 1 = 1 by have := HB.out; omega] at hm
      have et : ls (r.extract 0 1) = (ls r).take 1 := by rw [ls_extract]; simp
      have ed : ls (r.extract 1 r.size) = (ls r).drop 1 := by rw [ls_extract]; exact List.take_of_length_le (by rw [List.length_drop, ls_len]; exact Nat.le_refl _)
      have ez : (r.extract 0 1).size = 1 := by rw [ByteArray.size_extract]; omega
      have ez2 : (r.extract 1 r.size).size < r.size := by rw [ByteArray.size_extract]; omega
      have tl : ((ls r).take 1).length = 1 := by rw [← et, ls_len]; exact ez
      have LE := Lib.hid (show (digL 14 1).length + 2 + 1 + 2 ≤ (wrt b (ls r)).length by rw [hm]; simp only [List.length_append, tl, List.length_cons, List.length_nil]; omega)
      have NX : Hid (out ++ digL 14 1 ++ ls ⟨#[13, 10]⟩ ++ (ls r).take 1 ++ ls ⟨#[13, 10]⟩ ++ wrt b (ls (r.extract 1 r.size)) = wrt b (ls s)) := Lib.hid (by rw [ed, ← I.eq, hm]; simp [ls])
      have TX := Lib.hid et
      have TZ := Lib.hid ez
      have TL := Lib.hid tl
      have BH := Lib.hid (rfl : r.extract 1 r.size = r.extract 1 r.size)
      have BZ := Lib.hid ez2
      clear hm hne hp h0 hle et ed ez ez2 tl
      go_wp2_with fail
      refine (hx _).mono ?_
      rintro e w1 ⟨rfl, b1⟩
      clear hx
      have A1 := I.at_.below b1 (Nat.le_refl _)
      have B1 := I.bel.trans (b1.mono I.bel.size)
      have room := I.room HS.out
      have R0 := Lib.hid room
      clear room b1
      have c1 := string_any A1 (tx (digL 14 1)) (by have h1 := R0.out; have h2 := LE.out; rw [tx_size]; omega)
      rw [ls_tx] at c1
      generalize tx (digL 14 1) = D at c1 ⊢
      go_wp2_with fail
      refine c1.mono ?_
      rintro e w2 ⟨rfl, A2, k2⟩
      clear c1 A1
      have B2 := k2.below B1 (Nat.le_succ _) (Nat.le_refl _)
      clear k2 B1
      have c2 := string_any A2 ⟨#[13, 10]⟩ (by have h1 := R0.out; have h2 := LE.out; simp only [List.length_append]; show _ + 2 ≤ _; omega)
      go_wp2_with fail
      refine c2.mono ?_
      rintro e w3 ⟨rfl, A3, k3⟩
      clear c2 A2
      have B3 := k3.below B2 (Nat.le_succ _) (Nat.le_refl _)
      clear k3 B2
      have c3 := string_any A3 (r.extract 0 1) (by have h1 := R0.out; have h2 := LE.out; have h3 := TZ.out; rw [h3]; simp only [List.length_append]; show _ + 2 + _ ≤ _; omega)
      rw [TX.out] at c3
      go_wp2_with fail
      refine c3.mono ?_
      rintro e w4 ⟨rfl, A4, k4⟩
      clear c3 A3
      have B4 := k4.below B3 (Nat.le_succ _) (Nat.le_refl _)
      clear k4 B3
      have c4 := string_any A4 ⟨#[13, 10]⟩ (by have h1 := R0.out; have h2 := LE.out; have h3 := TL.out; simp only [List.length_append]; show _ + 2 + _ + 2 ≤ _; omega)
      go_wp2_with fail
      refine c4.mono ?_
      rintro e w5 ⟨rfl, A5, k5⟩
      clear c4 A4
      have B5 := k5.below B4 (Nat.le_succ _) (Nat.le_refl _)
      clear k5 B4
      go_wp2
      go_roundw
      case rel => exact ⟨(r.extract 1 r.size), by first | rfl | (rw [BH.out]), _, ⟨A5, B5, NX.out, by have := BZ.out; have := I.le; omega⟩⟩
      case measure =>
        have := BZ.out
        show ((r.extract 1 r.size) : ByteArray).size < r.size
        omega
set_option maxHeartbeats 4000000 in
theorem write_many (s : ByteArray) (B b : Nat) (hB : B = b + 1) (w : World) (hs : s.size ≤ 1073741824) (h1 : (B : Int) ≤ 9223372036854775807) :
    Calls Tryd.prog 15 #[.string s, .int .i64 (B : Int)] w fun e w' => e = .returned (.string (tx (wrt b (ls s)))) ∧ Below w.heap.size w w' := by
  have I0 : Hid (WInv w (w.alloc (.cells #[.pointer none, .slice none 0 0] 54)) b s s []) := Lib.hid (by
    refine ⟨⟨by omega, by simp, .pointer none, .slice none 0 0, .inl rfl, heap_alloc_new w _, ?_⟩, (Below.refl _ _).alloc (Nat.le_refl _) _, rfl, Nat.le_refl _⟩
    exact ⟨rfl, .inl ⟨rfl, rfl⟩⟩)
  have HS := Lib.hid hs
  clear hs
  have i0 : ¬ (B : Int) < 1 := by omega
  have j0 : ¬ B < 1 := by omega
  have HB := Lib.hid hB
  have HB1 := Lib.hid h1
  clear hB
  go_enter Tryd.func15, Tryd.ntmps15
  go_wp2_with fail
  go_loopw [0] (fun v wr => ∃ r : ByteArray, v = .string r ∧ ∃ out, WInv w wr b s r out) (fun v _ => Lib.strSize v)
  case atStart => exact ⟨s, rfl, [], I0.out⟩
  case round =>
    obtain ⟨r, rfl, out, I⟩ := hrel
    clear I0
    by_cases h0 : r.size = 0
    · have h1 := toList_nil r h0
      have hw : wrt b (ls r) = [48, 13, 10, 13, 10] := by rw [ls_empty h0, wrt_nil]
      have E := Lib.hid (by rw [← I.eq, hw] : wrt b (ls s) = out ++ [48, 13, 10, 13, 10])
      have room := I.room HS.out
      rw [hw] at room
      simp only [List.length_cons, List.length_nil] at room
      have c1 := string_any I.at_ ⟨#[48, 13, 10, 13, 10]⟩ (by show out.length + 5 ≤ _; omega)
      have B0 := I.bel
      clear h0 hw I
      go_wp2_with fail
      refine c1.mono ?_
      rintro e w2 ⟨rfl, A2, k2⟩
      clear c1
      have B2 := k2.below B0 (Nat.le_succ _) (Nat.le_refl _)
      have c2 := text_any A2 (by simp [ls]) (by rw [List.length_append]; show _ + 5 ≤ _; omega)
      rw [show out ++ ls ⟨#[48, 13, 10, 13, 10]⟩ = wrt b (ls s) from E.out.symm] at c2
      generalize hT : tx (wrt b (ls s)) = T at c2
      have HT := Lib.hid hT
      clear hT
      clear B0 k2 A2 room
      go_wp2_with fail
      refine c2.mono ?_
      rintro e w3 ⟨rfl, A3, k3⟩
      have B3 := k3.below B2 (Nat.le_succ _) (Nat.le_refl _)
      clear c2 A3 k3 B2
      go_wp2
      go_ret
      exact ⟨by rw [HT.out]; rfl, B3⟩
    · have hp : 0 < r.size := by omega
      have h1 := toList_ne r hp
      have h2 := toList_ne' r hp
      have hne : ls r ≠ [] := ls_ne hp
      have hm := wrt_more b hne
      rw [ls_len] at hm
      have hsz := HS.out
      have hle := I.le
      by_cases hc : r.size < B
      · have i1 : (r.size : Int) < (B : Int) := by omega
        have hx : ∀ w, Calls Tryd.prog 27 #[.int .i64 (r.size : Int)] w fun e w' => e = .returned (.string (tx (digL 14 r.size))) ∧ Below w.heap.size w w' := fun w => hexnum_any r.size w (by omega)
        rw [Nat.min_eq_right (by have := HB.out; omega), List.take_of_length_le (by rw [ls_len]; have := HB.out; omega), List.drop_of_length_le (by rw [ls_len]; have := HB.out; omega)] at hm
        have LE := Lib.hid (show (digL 14 r.size).length + 2 + r.size + 2 ≤ (wrt b (ls r)).length by rw [hm]; simp only [List.length_append, ls_len, List.length_cons, List.length_nil]; omega)
        have NX : Hid (out ++ ls (tx (digL 14 r.size)) ++ ls ⟨#[13, 10]⟩ ++ ls r ++ ls ⟨#[13, 10]⟩ ++ wrt b (ls ⟨#[]⟩) = wrt b (ls s)) := Lib.hid (by rw [← I.eq, hm, ls_tx, ls_nil]; simp [ls])
        rw [ls_tx] at NX
        have TX := Lib.hid (rfl : ls r = ls r)
        have TZ := Lib.hid (rfl : r.size = r.size)
        have TL := Lib.hid (ls_len r)
        have BH := Lib.hid (rfl : (⟨#[]⟩ : ByteArray) = ⟨#[]⟩)
        have BZ := Lib.hid (show (⟨#[]⟩ : ByteArray).size < r.size from hp)
        clear hm hne hp h0 hc hle
        go_wp2_with fail
        refine (hx _).mono ?_
        rintro e w1 ⟨rfl, b1⟩
        clear hx
        have A1 := I.at_.below b1 (Nat.le_refl _)
        have B1 := I.bel.trans (b1.mono I.bel.size)
        have room := I.room HS.out
        have R0 := Lib.hid room
        clear room b1
        have c1 := string_any A1 (tx (digL 14 r.size)) (by have h1 := R0.out; have h2 := LE.out; rw [tx_size]; omega)
        rw [ls_tx] at c1
        generalize tx (digL 14 r.size) = D at c1 ⊢
        go_wp2_with fail
        refine c1.mono ?_
        rintro e w2 ⟨rfl, A2, k2⟩
        clear c1 A1
        have B2 := k2.below B1 (Nat.le_succ _) (Nat.le_refl _)
        clear k2 B1
        have c2 := string_any A2 ⟨#[13, 10]⟩ (by have h1 := R0.out; have h2 := LE.out; simp only [List.length_append]; show _ + 2 ≤ _; omega)
        go_wp2_with fail
        refine c2.mono ?_
        rintro e w3 ⟨rfl, A3, k3⟩
        clear c2 A2
        have B3 := k3.below B2 (Nat.le_succ _) (Nat.le_refl _)
        clear k3 B2
        have c3 := string_any A3 r (by have h1 := R0.out; have h2 := LE.out; simp only [List.length_append]; show _ + 2 + _ ≤ _; omega)
        go_wp2_with fail
        refine c3.mono ?_
        rintro e w4 ⟨rfl, A4, k4⟩
        clear c3 A3
        have B4 := k4.below B3 (Nat.le_succ _) (Nat.le_refl _)
        clear k4 B3
        have c4 := string_any A4 ⟨#[13, 10]⟩ (by have h1 := R0.out; have h2 := LE.out; have h3 := TL.out; simp only [List.length_append]; show _ + 2 + _ + 2 ≤ _; omega)
        go_wp2_with fail
        refine c4.mono ?_
        rintro e w5 ⟨rfl, A5, k5⟩
        clear c4 A4
        have B5 := k5.below B4 (Nat.le_succ _) (Nat.le_refl _)
        clear k5 B4
        go_wp2
        go_roundw
        case rel => exact ⟨⟨#[]⟩, by first | rfl | (rw [BH.out]), _, ⟨A5, B5, NX.out, by have := BZ.out; have := I.le; omega⟩⟩
        case measure =>
          have := BZ.out
          show (⟨#[]⟩ : ByteArray).size < r.size
          omega
      · have i1 : ¬ (r.size : Int) < (B : Int) := by omega
        have i2 : (B : Int) ≤ (r.size : Int) := by omega
        have hx : ∀ w, Calls Tryd.prog 27 #[.int .i64 (B : Int)] w fun e w' => e = .returned (.string (tx (digL 14 B))) ∧ Below w.heap.size w w' := fun w => hexnum_any B w (by omega)
        rw [show min (b + 1) r.size = B by have := HB.out; omega, show b + 1 = B from HB.out.symm] at hm
        have et : ls (r.extract 0 B) = (ls r).take B := by rw [ls_extract]; simp
        have ed : ls (r.extract B r.size) = (ls r).drop B := by rw [ls_extract]; exact List.take_of_length_le (by rw [List.length_drop, ls_len]; exact Nat.le_refl _)
        have ez : (r.extract 0 B).size = B := by rw [ByteArray.size_extract]; omega
        have ez2 : (r.extract B r.size).size < r.size := by rw [ByteArray.size_extract]; omega
        have tl : ((ls r).take B).length = B := by rw [← et, ls_len]; exact ez
        have LE := Lib.hid (show (digL 14 B).length + 2 + B + 2 ≤ (wrt b (ls r)).length by rw [hm]; simp only [List.length_append, tl, List.length_cons, List.length_nil]; omega)
        have NX : Hid (out ++ digL 14 B ++ ls ⟨#[13, 10]⟩ ++ (ls r).take B ++ ls ⟨#[13, 10]⟩ ++ wrt b (ls (r.extract B r.size)) = wrt b (ls s)) := Lib.hid (by rw [ed, ← I.eq, hm]; simp [ls])
        have TX := Lib.hid et
        have TZ := Lib.hid ez
        have TL := Lib.hid tl
        have BH := Lib.hid (rfl : r.extract B r.size = r.extract B r.size)
        have BZ := Lib.hid ez2
        clear hm hne hp h0 hle et ed ez ez2 tl hc
        go_wp2_with fail
        refine (hx _).mono ?_
        rintro e w1 ⟨rfl, b1⟩
        clear hx
        have A1 := I.at_.below b1 (Nat.le_refl _)
        have B1 := I.bel.trans (b1.mono I.bel.size)
        have room := I.room HS.out
        have R0 := Lib.hid room
        clear room b1
        have c1 := string_any A1 (tx (digL 14 B)) (by have h1 := R0.out; have h2 := LE.out; rw [tx_size]; omega)
        rw [ls_tx] at c1
        generalize tx (digL 14 B) = D at c1 ⊢
        go_wp2_with fail
        refine c1.mono ?_
        rintro e w2 ⟨rfl, A2, k2⟩
        clear c1 A1
        have B2 := k2.below B1 (Nat.le_succ _) (Nat.le_refl _)
        clear k2 B1
        have c2 := string_any A2 ⟨#[13, 10]⟩ (by have h1 := R0.out; have h2 := LE.out; simp only [List.length_append]; show _ + 2 ≤ _; omega)
        go_wp2_with fail
        refine c2.mono ?_
        rintro e w3 ⟨rfl, A3, k3⟩
        clear c2 A2
        have B3 := k3.below B2 (Nat.le_succ _) (Nat.le_refl _)
        clear k3 B2
        have c3 := string_any A3 (r.extract 0 B) (by have h1 := R0.out; have h2 := LE.out; have h3 := TZ.out; rw [h3]; simp only [List.length_append]; show _ + 2 + _ ≤ _; omega)
        rw [TX.out] at c3
        go_wp2_with fail
        refine c3.mono ?_
        rintro e w4 ⟨rfl, A4, k4⟩
        clear c3 A3
        have B4 := k4.below B3 (Nat.le_succ _) (Nat.le_refl _)
        clear k4 B3
        have c4 := string_any A4 ⟨#[13, 10]⟩ (by have h1 := R0.out; have h2 := LE.out; have h3 := TL.out; simp only [List.length_append]; show _ + 2 + _ + 2 ≤ _; omega)
        go_wp2_with fail
        refine c4.mono ?_
        rintro e w5 ⟨rfl, A5, k5⟩
        clear c4 A4
        have B5 := k5.below B4 (Nat.le_succ _) (Nat.le_refl _)
        clear k5 B4
        go_wp2
        go_roundw
        case rel => exact ⟨(r.extract B r.size), by first | rfl | (rw [BH.out]), _, ⟨A5, B5, NX.out, by have := BZ.out; have := I.le; omega⟩⟩
        case measure =>
          have := BZ.out
          show ((r.extract B r.size) : ByteArray).size < r.size
          omega
/-- what Write answers: in chunks of m bytes, below 1 as 1 -/
theorem write_any (s : ByteArray) (m : Int) (w : World) (hs : s.size ≤ 1073741824) (h1 : -9223372036854775808 ≤ m) (h2 : m ≤ 9223372036854775807) :
    Calls Tryd.prog 15 #[.string s, .int .i64 m] w fun e w' => e = .returned (.string (tx (wrt (m.toNat - 1) (ls s)))) ∧ Below w.heap.size w w' := by
  by_cases c : m < 1
  · rw [show m.toNat - 1 = 0 by omega]
    exact write_one s m w hs c h1
  · have := write_many s m.toNat (m.toNat - 1) (by omega) w hs (by omega)
    rwa [show ((m.toNat : Nat) : Int) = m by omega] at this
end Go.Proofs.YtjdfninaccaagaaDoor.Ch
