/-
  Contract of Line of package inlet: a request line.
-/
import Derived.Test.YtdldoklkenhopaaDoorInPre
import Derived.Test.YtdldoklkenhopaaDoorFiSuf
import Derived.Test.YtdldoklkenhopaaDoorFiTok
import Derived.Test.YtdldoklkenhopaaDoorFiParse
import Derived.Test.YtdldoklkenhopaaDoorFiSplit2
import Derived.Test.YtdldoklkenhopaaDoorFiQuo
namespace Go.Proofs.YtdldoklkenhopaaDoor.In
open Go.RowKit Go.PlainAid
open Hx Fi Ch
set_option linter.unusedVariables false
set_option maxRecDepth 20000
set_option linter.unusedSimpArgs false

theorem isDigit_any (b : Int) (w : World) : Calls Tryd.prog 43 #[.int .u8 b] w fun e w' => e = .returned (.bool (decide (48 ≤ b ∧ b ≤ 57))) ∧ w = w' := by
  by_cases h1 : 48 ≤ b
  · by_cases h2 : b ≤ 57
    · rw [decide_eq_true ⟨h1, h2⟩]
      go_enter Tryd.func43, Tryd.ntmps43
      go_wp2
      go_ret
      exact ⟨rfl, rfl⟩
    · rw [decide_eq_false (fun h => h2 h.2)]
      go_enter Tryd.func43, Tryd.ntmps43
      go_wp2
      go_ret
      exact ⟨rfl, rfl⟩
  · rw [decide_eq_false (fun h => h1 h.1)]
    go_enter Tryd.func43, Tryd.ntmps43
    go_wp2
    go_ret
    exact ⟨rfl, rfl⟩

def DigPost (o : Option (UInt8 × UInt8)) (w : World) (e : Ending) (w' : World) : Prop :=
  (match o with
  | none => e = .returned (.tuple #[.int .i64 0, .int .i64 0, .bool false])
  | some (a, b) => e = .returned (.tuple #[.int .i64 ((a.toNat : Int) - 48), .int .i64 ((b.toNat : Int) - 48), .bool true])) ∧ Below w.heap.size w w'
theorem dig_none (w : World) : DigPost none w = fun e w' => e = .returned (.tuple #[.int .i64 0, .int .i64 0, .bool false]) ∧ Below w.heap.size w w' := rfl
theorem dig_some (a b : UInt8) (w : World) : DigPost (some (a, b)) w = fun e w' => e = .returned (.tuple #[.int .i64 ((a.toNat : Int) - 48), .int .i64 ((b.toNat : Int) - 48), .bool true]) ∧ Below w.heap.size w w' := rfl
theorem u8_le (a b : UInt8) : a ≤ b ↔ (a.toNat : Int) ≤ (b.toNat : Int) := by rw [UInt8.le_iff_toNat_le]; omega
theorem u8_eq (a b : UInt8) : a = b ↔ (a.toNat : Int) = (b.toNat : Int) := by
  constructor
  · rintro rfl; rfl
  · intro h; exact UInt8.toNat_inj.1 (by omega)
theorem getD_bt {s : ByteArray} {k : Nat} (h : k < s.size) : (((ls s).getD k 0).toNat : Int) = bt s k := by
  obtain ⟨c, gc, ec, _⟩ := get_ls h
  rw [List.getD_eq_getElem?_getD, gc, ec]; rfl
theorem vrF_bt {s : ByteArray} (h : s.size = 3) : vrF (ls s) = if (48 ≤ bt s 0 ∧ bt s 0 ≤ 57) ∧ bt s 1 = 46 ∧ 48 ≤ bt s 2 ∧ bt s 2 ≤ 57 then some ((ls s).getD 0 0, (ls s).getD 2 0) else none := by
  unfold vrF
  rw [ls_len]
  have e0 := getD_bt (s := s) (k := 0) (by omega)
  have e1 := getD_bt (s := s) (k := 1) (by omega)
  have e2 := getD_bt (s := s) (k := 2) (by omega)
  simp only [h, true_and, u8_le, u8_eq, e0, e1, e2]
  rfl
set_option maxHeartbeats 2000000 in
theorem digitsOf_any (s : ByteArray) (w : World) (hs : s.size ≤ 1099511627776) :
    Calls Tryd.prog 25 #[.string s] w (DigPost (verF (ls s)) w) := by
  have r1 := fun w => cut_any s pHT w hs (by decide)
  by_cases hp : pre s pHT = true
  · have e1 := pre_le hp
    have e0 : pHT.size = 5 := rfl
    rw [e0] at e1
    have ec : cut s pHT = s.extract 5 s.size := by unfold cut; rw [if_pos hp]; rfl
    rw [hp, ec] at r1
    rw [verF_pre ((pre_ht s).1 hp)]
    have ed : (ls s).drop 5 = ls (s.extract 5 s.size) := by
      rw [ls_extract, List.take_of_length_le (by rw [List.length_drop, ls_len]; omega)]
    rw [ed]
    have hD : (s.extract 5 s.size).size ≤ 1099511627776 := by rw [ByteArray.size_extract]; omega
    unfold pHT at r1
    clear ec ed e0 e1 hp
    generalize s.extract 5 s.size = D at *
    by_cases h3 : D.size = 3
    · rw [vrF_bt h3]
      have hg := get_bt D
      have g3 : ((D.size : Int) != 3) = false := by rw [h3]; rfl
      have i0 := fun w => isDigit_any (bt D 0) w
      have i2 := fun w => isDigit_any (bt D 2) w
      have y0 : (0 : Int) < (D.size : Int) := by omega
      have y1 : (1 : Int) < (D.size : Int) := by omega
      have y2 : (2 : Int) < (D.size : Int) := by omega
      have x0 := getD_bt (s := D) (k := 0) (by omega)
      have x2 := getD_bt (s := D) (k := 2) (by omega)
      generalize (ls D).getD 0 0 = A at *
      generalize (ls D).getD 2 0 = B at *
      by_cases c0 : 48 ≤ bt D 0 ∧ bt D 0 ≤ 57
      · rw [decide_eq_true c0] at i0
        by_cases c1 : bt D 1 = 46
        · by_cases c2 : 48 ≤ bt D 2 ∧ bt D 2 ≤ 57
          · rw [if_pos ⟨c0, c1, c2⟩, dig_some, x0, x2]
            rw [decide_eq_true c2] at i2
            have g1 : (bt D 1 != 46) = false := by rw [c1]; rfl
            have w0 : IntKind.u8.wrap (bt D 0 - 48) = bt D 0 - 48 := IntWalk.u8_in _ (by omega)
            have w2 : IntKind.u8.wrap (bt D 2 - 48) = bt D 2 - 48 := IntWalk.u8_in _ (by omega)
            have z0 : IntKind.i64.wrap (bt D 0 - 48) = bt D 0 - 48 := IntWalk.i64_in _ (by omega)
            have z2 : IntKind.i64.wrap (bt D 2 - 48) = bt D 2 - 48 := IntWalk.i64_in _ (by omega)
            clear c1 x0 x2
            go_enter Tryd.func25, Tryd.ntmps25
            go_wp2_with fail
            refine (r1 _).mono ?_
            rintro e w' ⟨rfl, rfl⟩
            clear r1
            go_wp2_with fail
            refine (i0 _).mono ?_
            rintro e w' ⟨rfl, rfl⟩
            go_wp2_with fail
            refine (i2 _).mono ?_
            rintro e w' ⟨rfl, rfl⟩
            go_upto_region 4 with (fail)
            go_quiet (fail)
            have BQ : Below w.heap.size w (w.drewN nq) := ⟨rfl, rfl, rfl, Nat.le_refl _, fun _ _ => rfl⟩
            generalize w.drewN nq = wq at *
            go_wp2
            go_ret3
            exact ⟨rfl, BQ⟩
          · rw [if_neg (fun x => c2 x.2.2), dig_none]
            rw [decide_eq_false c2] at i2
            have g1 : (bt D 1 != 46) = false := by rw [c1]; rfl
            clear c1 x0 x2 c2
            go_enter Tryd.func25, Tryd.ntmps25
            go_wp2_with fail
            refine (r1 _).mono ?_
            rintro e w' ⟨rfl, rfl⟩
            clear r1
            go_wp2_with fail
            refine (i0 _).mono ?_
            rintro e w' ⟨rfl, rfl⟩
            go_wp2_with fail
            refine (i2 _).mono ?_
            rintro e w' ⟨rfl, rfl⟩
            go_wp2
            go_ret3
            exact ⟨rfl, Below.refl _ _⟩
        · rw [if_neg (fun x => c1 x.2.1), dig_none]
          have g1 : (bt D 1 != 46) = true := by rw [bne_iff_ne]; exact c1
          clear c1 x0 x2 i2
          go_enter Tryd.func25, Tryd.ntmps25
          go_wp2_with fail
          refine (r1 _).mono ?_
          rintro e w' ⟨rfl, rfl⟩
          clear r1
          go_wp2_with fail
          refine (i0 _).mono ?_
          rintro e w' ⟨rfl, rfl⟩
          go_wp2
          go_ret3
          exact ⟨rfl, Below.refl _ _⟩
      · rw [if_neg (fun x => c0 x.1), dig_none]
        rw [decide_eq_false c0] at i0
        clear c0 x0 x2 i2
        go_enter Tryd.func25, Tryd.ntmps25
        go_wp2_with fail
        refine (r1 _).mono ?_
        rintro e w' ⟨rfl, rfl⟩
        clear r1
        go_wp2_with fail
        refine (i0 _).mono ?_
        rintro e w' ⟨rfl, rfl⟩
        go_wp2
        go_ret3
        exact ⟨rfl, Below.refl _ _⟩
    · have e : vrF (ls D) = none := by
        unfold vrF
        rw [if_neg fun x => h3 (by rw [← ls_len]; exact x.1)]
      rw [e, dig_none]
      have g3 : ((D.size : Int) != 3) = true := by rw [bne_iff_ne]; omega
      clear e h3
      go_enter Tryd.func25, Tryd.ntmps25
      go_wp2_with fail
      refine (r1 _).mono ?_
      rintro e w' ⟨rfl, rfl⟩
      clear r1
      go_wp2
      go_ret3
      exact ⟨rfl, Below.refl _ _⟩
  · have e : pre s pHT = false := by simpa using hp
    have ec : cut s pHT = s := by unfold cut; rw [if_neg hp]
    rw [e, ec] at r1
    rw [verF_not fun h => hp ((pre_ht s).2 h), dig_none]
    unfold pHT at r1
    clear e ec hp
    go_enter Tryd.func25, Tryd.ntmps25
    go_wp2_with fail
    refine (r1 _).mono ?_
    rintro e w' ⟨rfl, rfl⟩
    clear r1
    go_wp2
    go_ret3
    exact ⟨rfl, Below.refl _ _⟩

def visN (b : Int) : Bool := decide (33 ≤ b ∧ b ≤ 126)
theorem vis_is (l : List UInt8) : l.all visB = allN visN l := by
  unfold allN
  congr 1
  funext c
  unfold visB visN
  simp only [u8_le]
  rfl
theorem tgt_nil {s : ByteArray} (h : s.size = 0) : decide (ls s ≠ [] ∧ (ls s).all visB = true) = false := by rw [ls_empty h]; simp
theorem tgt_ne {s : ByteArray} (h : 0 < s.size) : decide (ls s ≠ [] ∧ (ls s).all visB = true) = allN visN (ls s) := by
  rw [vis_is]
  have : ls s ≠ [] := ls_ne h
  simp [this]
set_option maxHeartbeats 1000000 in
theorem isTarget_any (s : ByteArray) (w : World) (hs : s.size ≤ 1099511627776) :
    Calls Tryd.prog 27 #[.string s] w fun e w' => e = .returned (.bool (decide (ls s ≠ [] ∧ (ls s).all visB = true))) ∧ Below w.heap.size w w' := by
  obtain ⟨cap, X, hcv, R0, F0, hlt⟩ := bytes_row w s
  have hX : w.heap.size < X.heap.size := hlt
  have hg := get_bt s
  have ES : Hid ((s.toList == []) = decide (s.size = 0)) := Lib.hid (by
    rw [ls_toList]
    by_cases h : s.size = 0
    · rw [ls_empty h]; simp [h]
    · have := ls_ne (s := s) (by omega)
      cases hq : ls s with
      | nil => exact absurd hq this
      | cons a b => simp [h])
  generalize hr : decide (ls s ≠ [] ∧ (ls s).all visB = true) = r
  have HR := Lib.hid hr
  clear hr
  have R' := Lib.hid R0
  clear R0
  go_enter Tryd.func27, Tryd.ntmps27
  go_wp2
  clear hcv
  go_loop [8] (fun i => ∃ k : Nat, k ≤ s.size ∧ i = .int .i64 k ∧ AllTo visN s k) (fun i => s.size - (intOf i).toNat)
  case atStart => exact ⟨0, Nat.zero_le _, rfl, AllTo.zero visN s⟩
  case round =>
    obtain ⟨k, hk, rfl, hd⟩ := hrel
    by_cases hlt2 : k < s.size
    · have l1 : (k : Int) < (s.size : Int) := by omega
      obtain ⟨c, gc, ec, _⟩ := get_ls hlt2
      obtain ⟨c1, _⟩ := R'.out.cell k c gc
      rw [← ec] at c1
      clear gc ec
      cases hv : visN (bt s k) with
      | true =>
        have HD := Lib.hid (hd.succ hlt2 hv)
        clear hd
        unfold visN at hv
        have hv := of_decide_eq_true hv
        have v1 : ¬ bt s k < 33 := by omega
        have v2 : ¬ 126 < bt s k := by omega
        clear hv
        generalize bt s k = b at *
        go_wp2
        go_round
        case rel => exact ⟨k + 1, by omega, by go_num, HD.out⟩
        case measure => simp [intOf]; omega
      | false =>
        have E := Lib.hid ((tgt_ne (s := s) (by omega)).trans (all_not hlt2 hv))
        have HE : r = false := by rw [← HR.out, E.out]
        clear hd HR E
        subst HE
        unfold visN at hv
        have hv := of_decide_eq_false hv
        by_cases v1 : bt s k < 33
        · clear hv
          generalize bt s k = b at *
          go_wp2
          go_ret
          exact ⟨rfl, F0⟩
        · have v2 : 126 < bt s k := by omega
          clear hv
          generalize bt s k = b at *
          go_wp2
          go_ret
          exact ⟨rfl, F0⟩
    · have l1 : ¬ (k : Int) < (s.size : Int) := by omega
      have E := Lib.hid (hd.whole (by omega))
      clear hd
      by_cases hz : s.size = 0
      · have HE : r = false := by rw [← HR.out, tgt_nil hz]
        have es : (s.toList == []) = true := by rw [ES.out]; simp [hz]
        clear HR E ES
        subst HE
        go_wp2
        go_ret
        exact ⟨rfl, F0⟩
      · have HE : r = true := by rw [← HR.out, tgt_ne (by omega), E.out]
        have es : (s.toList == []) = false := by rw [ES.out]; simp [hz]
        clear HR E ES
        subst HE
        go_wp2
        go_ret
        exact ⟨rfl, F0⟩
/-! ### a request line -/
def LnPost (o : Except Int (List UInt8 × List UInt8 × Nat)) (w : World) (e : Ending) (w' : World) : Prop :=
  (match o with
  | .error st => e = .returned (.tuple #[.string ⟨#[]⟩, .string ⟨#[]⟩, .int .i64 0, .int .i64 st])
  | .ok (m, t, k) => e = .returned (.tuple #[.string (tx m), .string (tx t), .int .i64 (k : Int), .int .i64 200])) ∧ Below w.heap.size w w'
theorem ln_err (st : Int) (w : World) : LnPost (.error st) w = fun e w' => e = .returned (.tuple #[.string ⟨#[]⟩, .string ⟨#[]⟩, .int .i64 0, .int .i64 st]) ∧ Below w.heap.size w w' := rfl
theorem ln_ok (m t : List UInt8) (k : Nat) (w : World) : LnPost (.ok (m, t, k)) w = fun e w' => e = .returned (.tuple #[.string (tx m), .string (tx t), .int .i64 (k : Int), .int .i64 200]) ∧ Below w.heap.size w w' := rfl
/-- the two cuts: the method, the target, the version; where a blank is missing, what stands there instead -/
def lnC (l : List UInt8) : List UInt8 × List UInt8 × List UInt8 :=
  match cutB 32 l with
  | none => (l, [], [])
  | some (m, r) => match cutB 32 r with
    | none => (m, r, [])
    | some (t, v) => (m, t, v)
theorem verF_nil : verF [] = none := by unfold verF; simp
theorem lnQ_cut (l : List UInt8) : lnQ l = match verF (lnC l).2.2 with
    | none => .error 400
    | some (a, b) => if isTok (lnC l).1 = true ∧ ((lnC l).2.1 ≠ [] ∧ (lnC l).2.1.all visB = true) then (if a = 49 ∧ b ≤ 49 then .ok ((lnC l).1, (lnC l).2.1, b.toNat - 48) else .error 505) else .error 400 := by
  unfold lnQ lnC
  cases cutB 32 l with
  | none => simp only [verF_nil]
  | some p =>
    obtain ⟨m, r⟩ := p
    simp only
    cases cutB 32 r with
    | none => simp only [verF_nil]; split <;> rfl
    | some q =>
      obtain ⟨t, v⟩ := q
      simp only
      cases verF v with
      | none => simp only; split <;> (try split) <;> rfl
      | some ab =>
        obtain ⟨a, b⟩ := ab
        simp only
        by_cases h1 : isTok m = true
        · by_cases h2 : t ≠ [] ∧ t.all visB = true
          · rw [if_pos h1, if_pos h2, if_pos (show isTok m = true ∧ (t ≠ [] ∧ t.all visB = true) from ⟨h1, h2⟩)]
          · rw [if_pos h1, if_neg h2, if_neg (fun x : isTok m = true ∧ (t ≠ [] ∧ t.all visB = true) => h2 x.2)]
        · rw [if_neg h1, if_neg (fun x : isTok m = true ∧ (t ≠ [] ∧ t.all visB = true) => h1 x.1)]
theorem cut_two (s : ByteArray) (hs : s.size ≤ 1099511627776) : ∃ x y b, (∀ w, Calls Tryd.prog 24 #[.string s, .string ⟨#[32]⟩] w (fun e w' => e = .returned (.tuple #[.string x, .string y, .bool b]) ∧ Below w.heap.size w w')) ∧ x.size ≤ s.size ∧ y.size ≤ s.size ∧ (match cutB 32 (ls s) with | none => x = s ∧ y = ⟨#[]⟩ | some (m, r) => x = tx m ∧ y = tx r) := by
  cases h : cutB 32 (ls s) with
  | none => exact ⟨_, _, _, fun w => cut_no s 32 w hs h, Nat.le_refl _, Nat.zero_le _, rfl, rfl⟩
  | some p =>
    obtain ⟨m, r⟩ := p
    have hl := congrArg List.length (cutB_some h).1
    rw [ls_len, List.length_append, List.length_cons] at hl
    exact ⟨_, _, _, fun w => cut_yes s 32 w hs h, by rw [tx_size]; omega, by rw [tx_size]; omega, rfl, rfl⟩
end Go.Proofs.YtdldoklkenhopaaDoor.In
