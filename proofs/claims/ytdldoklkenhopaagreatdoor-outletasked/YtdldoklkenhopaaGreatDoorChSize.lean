/-
  Contracts of isText and sizeOf of package chunk: the number of a chunk's line.
-/
import Derived.Test.YtdldoklkenhopaaGreatDoorSet4
import Derived.Test.YtdldoklkenhopaaGreatDoorChAny2
import Derived.Test.YtdldoklkenhopaaGreatDoorSet2
import Derived.Test.YtdldoklkenhopaaGreatDoorSet1
namespace Go.Proofs.YtdldoklkenhopaaGreatDoor.Ch
open Go.RowKit Go.PlainAid
open Hx Fi
set_option linter.unusedVariables false
set_option maxRecDepth 20000
set_option linter.unusedSimpArgs false

/-! ### whether there are text bytes alone -/
theorem parse_x (l : List UInt8) : pE (120 :: 58 :: l) = if isTxt l = true then 0 else 3 := by
  have hc : cutB 58 (120 :: 58 :: l) = some ([120], l) := cutB_of (x := [120]) (y := l) (by decide)
  have ht : isTok [120] = true := by decide
  by_cases h : isTxt l = true
  · rw [if_pos h]; exact (p_some (parseF_cut hc ht h)).2
  · rw [if_neg h]; exact (p_none (parseF_cut_bad hc (fun x => h x.2))).2
theorem isText_any (s : ByteArray) (w : World) (hs : s.size ≤ 549755813888) :
    Calls Tryz.prog 94 #[.string s] w fun e w' => e = .returned (.bool (isTxt (ls s))) ∧ Below w.heap.size w w' := by
  have hl : ls (⟨#[120, 58]⟩ ++ s) = 120 :: 58 :: ls s := by rw [ls_append]; rfl
  have hz : (⟨#[120, 58]⟩ ++ s : ByteArray).size ≤ 1099511627776 := by rw [ByteArray.size_append]; show 2 + s.size ≤ _; omega
  have p := fun w => parse_any (⟨#[120, 58]⟩ ++ s) w hz
  unfold ParsePost at p
  rw [hl] at p
  have q := parse_x (ls s)
  generalize pE (120 :: 58 :: ls s) = v at *
  generalize pF (120 :: 58 :: ls s) = f at *
  have hv : (v == 0) = isTxt (ls s) := by
    rw [q]
    cases isTxt (ls s) <;> rfl
  have HV := Lib.hid hv
  clear hl hz q hv
  go_enter Tryz.func94, Tryz.ntmps94
  go_wp2_with fail
  refine (p _).mono ?_
  rintro e w1 ⟨rfl, G⟩
  clear p
  obtain ⟨X, S, A, B, _⟩ := fd_keep w1 f
  have G2 := G.trans (B.mono G.size)
  clear G A B
  go_wp2_with (refine wpl_store S rfl rfl rfl rfl rfl ?_)
  go_ret
  exact ⟨by rw [← HV.out]; rfl, G2⟩

/-! ### where the number ends -/
def sepB (c : UInt8) : Bool := sepL.contains c
def sepP (l : List UInt8) : List UInt8 := l.takeWhile fun c => !sepB c
def sepR (l : List UInt8) : List UInt8 := l.dropWhile fun c => !sepB c
theorem anyI_cons (c : UInt8) (l : List UInt8) : anyI (c :: l) = if sepB c = true then 0 else if anyI l = -1 then -1 else anyI l + 1 := by
  unfold anyI
  rw [Lib.indexAny]
  change (if sepB c = true then _ else _) = _
  by_cases h : sepB c = true
  · rw [if_pos h, if_pos h]
  · rw [if_neg h, if_neg h]
    by_cases e : Lib.indexAny l sepL = -1
    · rw [if_pos (by rw [e]; rfl), if_pos e]
    · rw [if_neg (by simpa using e), if_neg e]
theorem anyI_cases : ∀ l : List UInt8, (anyI l = -1 ∧ sepP l = l ∧ sepR l = []) ∨ ∃ k c r, anyI l = (k : Nat) ∧ k < l.length ∧ sepP l = l.take k ∧ sepR l = l.drop k ∧ sepR l = c :: r ∧ sepB c = true
  | [] => .inl ⟨rfl, rfl, rfl⟩
  | c :: l => by
    rw [anyI_cons]
    by_cases h : sepB c = true
    · rw [if_pos h]
      exact .inr ⟨0, c, l, rfl, by simp, by simp [sepP, List.takeWhile_cons, h], by simp [sepR, List.dropWhile_cons, h], by simp [sepR, List.dropWhile_cons, h], h⟩
    · rw [if_neg h]
      have h' : sepB c = false := by simpa using h
      have p1 : sepP (c :: l) = c :: sepP l := by simp [sepP, List.takeWhile_cons, h']
      have p2 : sepR (c :: l) = sepR l := by simp [sepR, List.dropWhile_cons, h']
      rcases anyI_cases l with ⟨a, b, d⟩ | ⟨k, x, r, a, b, d, e, f, g⟩
      · rw [if_pos a]; exact .inl ⟨rfl, by rw [p1, b], by rw [p2, d]⟩
      · rw [if_neg (by omega)]
        exact .inr ⟨k + 1, x, r, by omega, by simp; omega, by rw [p1, d]; rfl, by rw [p2, e]; rfl, by rw [p2, f], g⟩
theorem sep_hex (c : UInt8) (h : sepB c = true) : hexB c = false := by
  have : ∀ m : Fin 256, sepB (UInt8.ofNat m.val) = true → hexB (UInt8.ofNat m.val) = false := by decide +kernel
  have h2 := this ⟨c.toNat, c.toNat_lt⟩
  simp only [UInt8.ofNat_toNat] at h2
  exact h2 h
theorem sep_or (c : UInt8) : (c == 32 || c == 9 || c == 59) = sepB c := by
  have : ∀ m : Fin 256, (UInt8.ofNat m.val == 32 || UInt8.ofNat m.val == 9 || UInt8.ofNat m.val == 59) = sepB (UInt8.ofNat m.val) := by decide +kernel
  have h2 := this ⟨c.toNat, c.toNat_lt⟩
  simp only [UInt8.ofNat_toNat] at h2
  exact h2
theorem okR_cons (c : UInt8) (r : List UInt8) : okR (c :: r) = (sepB c && isTxt (c :: r)) := by rw [← sep_or]; rfl
theorem hex_all {l : List UInt8} : AllHex (tx l) (tx l).size ↔ ∀ c ∈ l, hexB c = true := by
  unfold AllHex hexB
  constructor
  · intro h c hc
    obtain ⟨j, hj, rfl⟩ := List.getElem_of_mem hc
    have := h j hj
    rw [bt_get (tx l) j hj] at this
    exact this
  · intro h j hj
    rw [bt_get (tx l) j hj]
    exact h _ (List.getElem_mem hj)
/-- the number of a line as it is read: the digits till a blank, a tab or a semicolon -/
theorem numF_is (t : List UInt8) (m : Int) : ((HexForm (tx (sepP t)) ∧ isTxt (sepR t) = true) ∧ numF t m = if 0 ≤ m ∧ hexTo (tx (sepP t)) (tx (sepP t)).size ≤ m ∧ hexTo (tx (sepP t)) (tx (sepP t)).size ≤ 4611686018427387904 then .ok (hexTo (tx (sepP t)) (tx (sepP t)).size).toNat else .error 4) ∨ (¬ (HexForm (tx (sepP t)) ∧ isTxt (sepR t) = true) ∧ numF t m = .error 3) := by
  have key : (∀ c ∈ sepP t, hexB c = true) → hxP t = sepP t ∧ hxR t = sepR t := by
    intro h
    have hs : t = sepP t ++ sepR t := (List.takeWhile_append_dropWhile ..).symm
    have h1 : (sepP t ++ sepR t).takeWhile hexB = sepP t ++ (sepR t).takeWhile hexB := List.takeWhile_append_of_pos h
    have h2 : (sepP t ++ sepR t).dropWhile hexB = (sepR t).dropWhile hexB := List.dropWhile_append_of_pos h
    have h3 : (sepR t).takeWhile hexB = [] ∧ (sepR t).dropWhile hexB = sepR t := by
      rcases anyI_cases t with ⟨_, _, e⟩ | ⟨k, c, r, _, _, _, _, e, g⟩
      · rw [e]; exact ⟨rfl, rfl⟩
      · rw [e]
        have := sep_hex c g
        simp [List.takeWhile_cons, List.dropWhile_cons, this]
    unfold hxP hxR
    rw [← hs] at h1 h2
    rw [h1, h2, h3.1, h3.2, List.append_nil]
    exact ⟨rfl, rfl⟩
  have back : okR (hxR t) = true → sepP t = hxP t := by
    intro h
    have hs : t = hxP t ++ hxR t := (List.takeWhile_append_dropWhile ..).symm
    have hall : ∀ c ∈ hxP t, (!sepB c) = true := fun c hc => by
      have : hexB c = true := by
        have := List.all_takeWhile (p := hexB) (l := t)
        rw [List.all_eq_true] at this
        exact this c hc
      cases hq : sepB c with
      | false => rfl
      | true => rw [sep_hex c hq] at this; cases this
    have h1 : (hxP t ++ hxR t).takeWhile (fun c => !sepB c) = hxP t ++ (hxR t).takeWhile (fun c => !sepB c) := List.takeWhile_append_of_pos hall
    have h3 : (hxR t).takeWhile (fun c => !sepB c) = [] := by
      cases hr : hxR t with
      | nil => rfl
      | cons c r =>
        rw [hr] at h
        rw [okR_cons, Bool.and_eq_true] at h
        simp [List.takeWhile_cons, h.1]
    unfold sepP
    rw [← hs] at h1
    rw [h1, h3, List.append_nil]
  by_cases c : HexForm (tx (sepP t)) ∧ isTxt (sepR t) = true
  · refine .inl ⟨c, ?_⟩
    obtain ⟨⟨c1, c2, c3⟩, c4⟩ := c
    obtain ⟨e1, e2⟩ := key (hex_all.1 c3)
    rw [tx_size] at c1 c2
    unfold numF numV
    rw [e1, e2, if_pos, tx_size]
    refine ⟨?_, c1, c2⟩
    rcases anyI_cases t with ⟨_, _, e⟩ | ⟨k, c, r, _, _, _, _, e, g⟩
    · rw [e]; rfl
    · rw [e] at c4 ⊢
      rw [okR_cons, g, c4]; rfl
  · refine .inr ⟨c, ?_⟩
    unfold numF
    rw [if_neg]
    rintro ⟨h1, h2, h3⟩
    have e1 := back h1
    apply c
    have hh : ∀ c ∈ sepP t, hexB c = true := by
      rw [e1]
      intro c hc
      have := List.all_takeWhile (p := hexB) (l := t)
      rw [List.all_eq_true] at this
      exact this c hc
    refine ⟨⟨by rw [tx_size, e1]; exact h2, by rw [tx_size, e1]; exact h3, hex_all.2 hh⟩, ?_⟩
    rw [(key hh).2] at h1
    cases hr : sepR t with
    | nil => rfl
    | cons c r =>
      rw [hr] at h1
      rw [okR_cons, Bool.and_eq_true] at h1
      exact h1.2
def szN : Except Int Nat → Int
  | .ok n => n
  | .error _ => 0
def szE : Except Int Nat → Int
  | .ok _ => 0
  | .error e => e
/-- what sizeOf does with its digits and what is behind them -/
theorem numbers (t : List UInt8) (m : Int) : (isTxt (sepR t) = false ∧ numF t m = .error 3) ∨ (isTxt (sepR t) = true ∧ ((¬ HexForm (tx (sepP t)) ∧ numF t m = .error 3) ∨ (HexForm (tx (sepP t)) ∧ ((amE (hexTo (tx (sepP t)) (tx (sepP t)).size) m = 0 ∧ amN (hexTo (tx (sepP t)) (tx (sepP t)).size) m = szN (numF t m) ∧ szE (numF t m) = 0) ∨ (amE (hexTo (tx (sepP t)) (tx (sepP t)).size) m = 14 ∧ numF t m = .error 4))))) := by
  have h := numF_is t m
  cases ht : isTxt (sepR t) with
  | false =>
    left
    rcases h with ⟨⟨_, e⟩, _⟩ | ⟨_, e⟩
    · rw [ht] at e; cases e
    · exact ⟨rfl, e⟩
  | true =>
    right
    refine ⟨rfl, ?_⟩
    rcases h with ⟨⟨c, _⟩, e⟩ | ⟨c, e⟩
    · refine .inr ⟨c, ?_⟩
      have h0 := (hexTo_bd (tx (sepP t)) (tx (sepP t)).size).1
      generalize hexTo (tx (sepP t)) (tx (sepP t)).size = v at *
      unfold amE amN
      by_cases q : 0 ≤ m ∧ v ≤ m ∧ v ≤ 4611686018427387904
      · rw [if_pos q] at e
        rw [if_pos q, if_pos q, e]
        left
        exact ⟨rfl, by show v = ((v.toNat : Nat) : Int); omega, rfl⟩
      · rw [if_neg q] at e
        rw [if_neg q, if_neg q]
        exact .inr ⟨rfl, e⟩
    · exact .inl ⟨fun x => c ⟨x, ht⟩, e⟩
set_option maxHeartbeats 2000000 in
theorem sizeOf_any (s : ByteArray) (m : Int) (w : World) (hs : s.size ≤ 549755813888) (h2 : -9223372036854775808 ≤ m) (h3 : m ≤ 9223372036854775807) :
    Calls Tryz.prog 80 #[.string s, .int .i64 m] w fun e w' => e = .returned (.tuple #[.int .i64 (szN (numF (ls s) m)), .int .i64 (szE (numF (ls s) m))]) ∧ Below w.heap.size w w' := by
  have ia := fun w => indexAny_any s w (by omega)
  have hn := numbers (ls s) m
  have it : ∀ w, Calls Tryz.prog 94 #[.string (tx (sepR (ls s)))] w fun e w' => e = .returned (.bool (isTxt (sepR (ls s)))) ∧ Below w.heap.size w w' := fun w => by
    have h := isText_any (tx (sepR (ls s))) w (by
      rw [tx_size]
      have : (sepR (ls s)).length ≤ (ls s).length := (List.dropWhile_sublist _).length_le
      rw [ls_len] at this
      omega)
    rw [ls_tx] at h
    exact h
  have hPl : (tx (sepP (ls s))).size ≤ 4611686018427387904 := by
    rw [tx_size]
    have : (sepP (ls s)).length ≤ (ls s).length := (List.takeWhile_sublist _).length_le
    rw [ls_len] at this
    omega
  -- the digits' number
  have ux : ∀ w, Calls Tryz.prog 93 #[.string (tx (sepP (ls s))), .int .i64 m] w fun e w' => (∃ a b : Int, e = .returned (.tuple #[.int .i64 a, .int .i64 b]) ∧ (b = 14 → isTxt (sepR (ls s)) = true → numF (ls s) m = .error 4) ∧ (b ≠ 14 → isTxt (sepR (ls s)) = true → a = szN (numF (ls s) m) ∧ b = szE (numF (ls s) m))) ∧ w = w' := fun w => by
    by_cases hf : HexForm (tx (sepP (ls s)))
    · refine (unhexnum_yes _ m w hf h2 h3).mono fun e w' ⟨he, hw⟩ => ⟨⟨_, _, he, fun h14 ht => ?_, fun h14 ht => ?_⟩, hw⟩
      · rcases hn with ⟨x, _⟩ | ⟨_, ⟨x, _⟩ | ⟨_, ⟨x, _⟩ | ⟨_, x⟩⟩⟩
        · rw [ht] at x; cases x
        · exact absurd hf x
        · rw [h14] at x; cases x
        · exact x
      · rcases hn with ⟨x, _⟩ | ⟨_, ⟨x, _⟩ | ⟨_, ⟨x, y, z⟩ | ⟨x, _⟩⟩⟩
        · rw [ht] at x; cases x
        · exact absurd hf x
        · exact ⟨y, by rw [x, z]⟩
        · exact absurd x h14
    · refine (unhexnum_no _ m w hPl hf h2 h3).mono fun e w' ⟨he, hw⟩ => ⟨⟨_, _, he, fun h14 _ => by omega, fun _ ht => ?_⟩, hw⟩
      rcases hn with ⟨x, _⟩ | ⟨_, ⟨_, x⟩ | ⟨x, _⟩⟩
      · rw [ht] at x; cases x
      · rw [x]; exact ⟨rfl, rfl⟩
      · exact absurd x hf
  have bad : isTxt (sepR (ls s)) = false → szN (numF (ls s) m) = 0 ∧ szE (numF (ls s) m) = 3 := fun ht => by
    rcases hn with ⟨_, x⟩ | ⟨x, _⟩
    · rw [x]; exact ⟨rfl, rfl⟩
    · rw [ht] at x; cases x
  have four : numF (ls s) m = .error 4 → szN (numF (ls s) m) = 0 ∧ szE (numF (ls s) m) = 4 := fun x => by rw [x]; exact ⟨rfl, rfl⟩
  have split : (anyI (ls s) = -1 ∧ tx (sepP (ls s)) = s ∧ tx (sepR (ls s)) = ⟨#[]⟩) ∨ ∃ k : Nat, anyI (ls s) = k ∧ k < s.size ∧ s.extract 0 k = tx (sepP (ls s)) ∧ s.extract k s.size = tx (sepR (ls s)) := by
    rcases anyI_cases (ls s) with ⟨a, b, c⟩ | ⟨k, x, r, a, b, c, d, _, _⟩
    · exact .inl ⟨a, by rw [b, tx_ls], by rw [c]; rfl⟩
    · refine .inr ⟨k, a, by rwa [ls_len] at b, ls_inj (by rw [ls_extract, ls_tx, c]; simp), ls_inj (by rw [ls_extract, ls_tx, d]; exact List.take_of_length_le (by rw [List.length_drop, ls_len]; exact Nat.le_refl _))⟩
  clear hn hPl
  generalize isTxt (sepR (ls s)) = tv at *
  generalize tx (sepP (ls s)) = P at *
  generalize tx (sepR (ls s)) = R at *
  have four' := Lib.hid four
  have bad' := Lib.hid bad
  clear four bad
  generalize numF (ls s) m = nf at *
  -- the rest behind the two numbers
  rcases split with ⟨ai, rfl, rfl⟩ | ⟨k, ai, hk, eP, eR⟩
  · rw [ai] at ia
    clear ai
    go_enter Tryz.func80, Tryz.ntmps80
    go_wp2_with fail
    refine (ia _).mono ?_
    rintro e w1 ⟨rfl, G1⟩
    clear ia
    go_wp2_with fail
    refine (ux _).mono ?_
    rintro e w' ⟨⟨a, b, rfl, u1, u2⟩, rfl⟩
    clear ux
    have U1 := Lib.hid u1
    have U2 := Lib.hid u2
    clear u1 u2
    go_wp2_with fail
    refine (it _).mono ?_
    rintro e w2 ⟨rfl, G2⟩
    have G := G1.trans (G2.mono G1.size)
    clear it G1 G2
    cases tv with
    | false =>
      obtain ⟨b1, b2⟩ := bad'.out rfl
      have B1 := Lib.hid b1
      have B2 := Lib.hid b2
      clear b1 b2
      go_wp2
      go_ret2
      exact ⟨by rw [B1.out, B2.out]; rfl, G⟩
    | true =>
      by_cases h14 : b = 14
      · obtain ⟨b1, b2⟩ := four'.out (U1.out h14 rfl)
        have B1 := Lib.hid b1
        have B2 := Lib.hid b2
        subst h14
        clear b1 b2
        go_wp2
        go_ret2
        exact ⟨by rw [B1.out, B2.out]; rfl, G⟩
      · obtain ⟨b1, b2⟩ := U2.out h14 rfl
        have B1 := Lib.hid b1
        have B2 := Lib.hid b2
        have g14 : (b == 14) = false := beq_eq_false_iff_ne.2 h14
        clear b1 b2 h14
        go_wp2
        go_ret2
        exact ⟨by rw [← B1.out, ← B2.out]; rfl, G⟩
  · rw [ai] at ia
    clear ai
    have i1 : (k : Int) ≤ (s.size : Int) := by omega
    have i0 : (0 : Int) ≤ (k : Int) := by omega
    have EP := Lib.hid eP
    have ER := Lib.hid eR
    clear eP eR
    go_enter Tryz.func80, Tryz.ntmps80
    go_wp2_with fail
    refine (ia _).mono ?_
    rintro e w1 ⟨rfl, G1⟩
    clear ia
    go_wp2_with fail
    go_quiet (fail)
    have G1' : Below w.heap.size w (w1.drewN nq) := G1.trans ⟨rfl, rfl, rfl, Nat.le_refl _, fun _ _ => rfl⟩
    clear G1
    generalize w1.drewN nq = w1 at *
    rw [EP.out, ER.out]
    clear EP ER
    go_wp2_with fail
    refine (ux _).mono ?_
    rintro e w' ⟨⟨a, b, rfl, u1, u2⟩, rfl⟩
    clear ux
    have U1 := Lib.hid u1
    have U2 := Lib.hid u2
    clear u1 u2
    go_wp2_with fail
    refine (it _).mono ?_
    rintro e w2 ⟨rfl, G2⟩
    have G := G1'.trans (G2.mono G1'.size)
    clear it G1' G2
    cases tv with
    | false =>
      obtain ⟨b1, b2⟩ := bad'.out rfl
      have B1 := Lib.hid b1
      have B2 := Lib.hid b2
      clear b1 b2
      go_wp2
      go_ret2
      exact ⟨by rw [B1.out, B2.out]; rfl, G⟩
    | true =>
      by_cases h14 : b = 14
      · obtain ⟨b1, b2⟩ := four'.out (U1.out h14 rfl)
        have B1 := Lib.hid b1
        have B2 := Lib.hid b2
        subst h14
        clear b1 b2
        go_wp2
        go_ret2
        exact ⟨by rw [B1.out, B2.out]; rfl, G⟩
      · obtain ⟨b1, b2⟩ := U2.out h14 rfl
        have B1 := Lib.hid b1
        have B2 := Lib.hid b2
        have g14 : (b == 14) = false := beq_eq_false_iff_ne.2 h14
        clear b1 b2 h14
        go_wp2
        go_ret2
        exact ⟨by rw [← B1.out, ← B2.out]; rfl, G⟩
end Go.Proofs.YtdldoklkenhopaaGreatDoor.Ch
