/-
  Contracts of line and number of the document's answers.
-/
import Derived.Test.YtbngfphiachnoaaGreatDoorChCuts
import Derived.Test.YtbngfphiachnoaaGreatDoorFiRef
import Derived.Test.YtbngfphiachnoaaGreatDoorFiRefP
import Derived.Test.YtbngfphiachnoaaGreatDoorHxRefN
namespace Go.Proofs.YtbngfphiachnoaaGreatDoor.Ch
open Go.RowKit Go.PlainAid
open Hx Fi
set_option linter.unusedVariables false
set_option maxRecDepth 20000
set_option linter.unusedSimpArgs false

theorem slice_two (s : ByteArray) (i j : Nat) (iI jI : Int) (e1 : iI = i) (e2 : jI = j) (h1 : i ≤ j) (h2 : j ≤ s.size) (w : World) :
    (Instr.slice 9 (.string s) (some (.int .i64 iI)) (some (.int .i64 jI)) none).run Tryz.prog w = .ok (.string (s.extract i j)) w := by
  have h := run_slice_string (P := Tryz.prog) (w := w) 9 s .i64 .i64 iI jI Tryz.underlying9 (by omega) (by omega) (by omega)
  rw [show jI.toNat = j by omega, show iI.toNat = i by omega] at h
  exact h
/-- what line answers: the line without its end, and the place behind it -/
inductive Ln where
  | err (e : Int)
  | ok (x : List UInt8) (n : Nat)
def lnF (l : List UInt8) : Ln :=
  match lineC l with
  | none => if 256 ≤ l.length then .err 3 else .err 17
  | some t => if t.getLast? = some 13 then .ok t.dropLast (t.length + 1) else .err 3
def lnPost (l : List UInt8) (at_ : Nat) (w : World) (e : Ending) (w' : World) : Prop :=
  (∃ e0, lnF l = .err e0 ∧ e = .returned (.tuple #[.string ⟨#[]⟩, .int .i64 0, .int .i64 e0]) ∧ w = w') ∨ (∃ x n, lnF l = .ok x n ∧ e = .returned (.tuple #[.string (tx x), .int .i64 ((at_ + n : Nat) : Int), .int .i64 0]) ∧ w = w')
set_option maxHeartbeats 4000000 in
theorem rline_great (s : ByteArray) (i : Nat) (hi : i ≤ s.size) (hs : s.size ≤ 1048576) (w : World) (hc : i + 256 < s.size) :
    Calls Tryz.prog 57 #[.string s, .int .i64 i] w (lnPost ((ls s).drop i) i w) := by
  have hl : ((ls s).drop i).length = s.size - i := by rw [List.length_drop, ls_len]
  have ex : ls (s.extract i (i + 256)) = ((ls s).drop i).take 256 := by
    rw [ls_extract]
    rw [show i + 256 - i = 256 by omega]
  have sl := slice_two s i (i + 256) (i : Int) ((i : Int) + 256) rfl (by omega) (by omega) (by omega)
  have fi := fun w => refFind_any (s.extract i (i + 256)) 10 w (by rw [ByteArray.size_extract]; omega)
  rw [ex] at fi
  rw [show (((10 : UInt8).toNat : Nat) : Int) = 10 from rfl] at fi
  have i1 : (i : Int) + 256 < (s.size : Int) := by omega
  generalize s.extract i (i + 256) = U at sl fi ex
  clear ex
  cases hq : cutB 10 (((ls s).drop i).take 256) with
  | none =>
    rw [find_no hq] at fi
    have hn : lnF ((ls s).drop i) = if 256 ≤ s.size - i then .err 3 else .err 17 := by
      unfold lnF lineC
      rw [hq]
      show (if 256 ≤ ((ls s).drop i).length then Ln.err 3 else Ln.err 17) = _
      rw [hl]
    clear hq hl
    have i2 : (256 : Int) ≤ (s.size : Int) - (i : Int) := by omega
    rw [if_pos (by omega)] at hn
    have HN := Lib.hid hn
    clear hn
    go_enter Tryz.func57, Tryz.ntmps57
    go_wp2_with fail
    refine (fi _).mono ?_
    rintro e w' ⟨rfl, rfl⟩
    clear fi
    clear sl
    go_wp2
    go_ret3
    exact .inl ⟨3, HN.out, rfl, rfl⟩
  | some v =>
    obtain ⟨x, y⟩ := v
    rw [find_yes hq] at fi
    obtain ⟨ec, _⟩ := cutB_some hq
    have hlen := congrArg List.length ec
    rw [List.length_take, List.length_append, List.length_cons, hl] at hlen
    obtain ⟨q, hqx⟩ : ∃ q, q = x.length := ⟨_, rfl⟩
    rw [← hqx] at fi hlen
    have eT : ls (s.extract i (i + q)) = x := by
      rw [ls_extract, show i + q - i = q by omega]
      have h1 := congrArg (List.take q) ec
      rw [List.take_take, Nat.min_eq_left (by omega), List.take_left' hqx.symm] at h1
      exact h1
    have hlc : lineC ((ls s).drop i) = some x := by unfold lineC; rw [hq]; rfl
    have sl2 := slice_two s i (i + q) (i : Int) ((i : Int) + (q : Int)) rfl (by omega) (by omega) (by omega)
    have zT : (s.extract i (i + q)).size = q := by rw [ByteArray.size_extract]; omega
    generalize s.extract i (i + q) = T at eT sl2 zT
    clear hq ec hl
    cases q with
    | zero =>
      have hx : x = [] := List.eq_nil_of_length_eq_zero hqx.symm
      have hn : lnF ((ls s).drop i) = .err 3 := by unfold lnF; rw [hlc, hx]; rfl
      have HN := Lib.hid hn
      have t1 := toList_nil T zT
      clear hn hx hlc eT hqx hlen zT
      rw [show ((0 : Nat) : Int) = 0 from rfl] at fi sl2
      go_enter Tryz.func57, Tryz.ntmps57
      go_wp2_with fail
      refine (fi _).mono ?_
      rintro e w' ⟨rfl, rfl⟩
      clear fi
      go_wp2
      go_ret3
      exact .inl ⟨3, HN.out, rfl, rfl⟩
    | succ q =>
      have t1 := toList_ne T (by omega)
      have t2 := toList_ne' T (by omega)
      have hg := get_bt T
      have i3 : ((q + 1 : Nat) : Int) - 1 = (q : Int) := by omega
      obtain ⟨c, gc, ec, -, -, -⟩ := get_ls (s := T) (k := q) (by omega)
      have hlast : x.getLast? = some c := by
        rw [List.getLast?_eq_getElem?, ← hqx, ← eT]
        exact gc
      obtain ⟨Q, hQ⟩ : ∃ Q, Q = q + 1 := ⟨_, rfl⟩
      rw [← hQ] at fi sl2 zT i3 hlen hqx
      have i5 : (0 : Int) ≤ (Q : Int) := by omega
      have i6 : ¬ (Q : Int) < 0 := by omega
      have i7 : (q : Int) < (T.size : Int) := by omega
      have j7 : q < T.size := by omega
      have i8 : (Q : Int) ≤ 256 := by omega
      have hx1 : q < T.size := by omega
      by_cases h13 : c = 13
      · have e13 : (bt T q != 13) = false := by rw [ec, h13]; rfl
        have hn : lnF ((ls s).drop i) = .ok x.dropLast (x.length + 1) := by unfold lnF; rw [hlc]; simp only; rw [if_pos (by rw [hlast, h13])]
        have eD : T.extract 0 q = tx x.dropLast := ls_inj (by rw [ls_extract, ls_tx, eT, List.drop_zero, Nat.sub_zero, List.dropLast_eq_take, ← hqx, show Q - 1 = q by omega])
        rw [← hqx] at hn
        have HN := Lib.hid hn
        have ED := Lib.hid eD
        have i4 : (q : Int) ≤ (T.size : Int) := by omega
        have HZ := Lib.hid zT
        clear hn eD hlc hlast gc eT ec h13 hqx hQ hlen zT
        go_enter Tryz.func57, Tryz.ntmps57
        go_wp2_with fail
        refine (fi _).mono ?_
        rintro e w' ⟨rfl, rfl⟩
        clear fi
        go_wp2
        go_ret3
        exact .inr ⟨x.dropLast, Q + 1, HN.out, by rw [← ED.out]; congr 4, rfl⟩
      · have e13 : (bt T q != 13) = true := by rw [ec, bne_iff_ne]; exact fun h => h13 ((byte_eq c 13).1 h)
        have hn : lnF ((ls s).drop i) = .err 3 := by unfold lnF; rw [hlc]; simp only; rw [if_neg (by rw [hlast]; simpa using h13)]
        have HN := Lib.hid hn
        clear hn hlc hlast gc eT ec h13 hqx hQ hlen zT
        go_enter Tryz.func57, Tryz.ntmps57
        go_wp2_with fail
        refine (fi _).mono ?_
        rintro e w' ⟨rfl, rfl⟩
        clear fi
        go_wp2
        go_ret3
        exact .inl ⟨3, HN.out, rfl, rfl⟩
set_option maxHeartbeats 4000000 in
theorem rline_whole (s : ByteArray) (i : Nat) (hi : i ≤ s.size) (hs : s.size ≤ 1048576) (w : World) (hc : ¬ i + 256 < s.size) :
    Calls Tryz.prog 57 #[.string s, .int .i64 i] w (lnPost ((ls s).drop i) i w) := by
  have hl : ((ls s).drop i).length = s.size - i := by rw [List.length_drop, ls_len]
  have ex : ls (s.extract i s.size) = ((ls s).drop i).take 256 := by
    rw [ls_extract]
    rw [List.take_of_length_le (by rw [hl]; omega), List.take_of_length_le (by rw [hl]; omega)]
  have sl := slice_two s i s.size (i : Int) (s.size : Int) rfl (by omega) (by omega) (by omega)
  have fi := fun w => refFind_any (s.extract i s.size) 10 w (by rw [ByteArray.size_extract]; omega)
  rw [ex] at fi
  rw [show (((10 : UInt8).toNat : Nat) : Int) = 10 from rfl] at fi
  have i1 : ¬ (i : Int) + 256 < (s.size : Int) := by omega
  generalize s.extract i s.size = U at sl fi ex
  clear ex
  cases hq : cutB 10 (((ls s).drop i).take 256) with
  | none =>
    rw [find_no hq] at fi
    have hn : lnF ((ls s).drop i) = if 256 ≤ s.size - i then .err 3 else .err 17 := by
      unfold lnF lineC
      rw [hq]
      show (if 256 ≤ ((ls s).drop i).length then Ln.err 3 else Ln.err 17) = _
      rw [hl]
    clear hq hl
    by_cases h3 : 256 ≤ s.size - i
    · have i2 : (256 : Int) ≤ (s.size : Int) - (i : Int) := by omega
      rw [if_pos (by omega)] at hn
      have HN := Lib.hid hn
      clear hn h3
      go_enter Tryz.func57, Tryz.ntmps57
      go_wp2_with fail
      refine (fi _).mono ?_
      rintro e w' ⟨rfl, rfl⟩
      clear fi
      clear sl
      go_wp2
      go_ret3
      exact .inl ⟨3, HN.out, rfl, rfl⟩
    · have i2 : ¬ (256 : Int) ≤ (s.size : Int) - (i : Int) := by omega
      rw [if_neg (by omega)] at hn
      have HN := Lib.hid hn
      clear hn h3
      go_enter Tryz.func57, Tryz.ntmps57
      go_wp2_with fail
      refine (fi _).mono ?_
      rintro e w' ⟨rfl, rfl⟩
      clear fi
      clear sl
      go_wp2
      go_ret3
      exact .inl ⟨17, HN.out, rfl, rfl⟩
  | some v =>
    obtain ⟨x, y⟩ := v
    rw [find_yes hq] at fi
    obtain ⟨ec, _⟩ := cutB_some hq
    have hlen := congrArg List.length ec
    rw [List.length_take, List.length_append, List.length_cons, hl] at hlen
    obtain ⟨q, hqx⟩ : ∃ q, q = x.length := ⟨_, rfl⟩
    rw [← hqx] at fi hlen
    have eT : ls (s.extract i (i + q)) = x := by
      rw [ls_extract, show i + q - i = q by omega]
      have h1 := congrArg (List.take q) ec
      rw [List.take_take, Nat.min_eq_left (by omega), List.take_left' hqx.symm] at h1
      exact h1
    have hlc : lineC ((ls s).drop i) = some x := by unfold lineC; rw [hq]; rfl
    have sl2 := slice_two s i (i + q) (i : Int) ((i : Int) + (q : Int)) rfl (by omega) (by omega) (by omega)
    have zT : (s.extract i (i + q)).size = q := by rw [ByteArray.size_extract]; omega
    generalize s.extract i (i + q) = T at eT sl2 zT
    clear hq ec hl
    cases q with
    | zero =>
      have hx : x = [] := List.eq_nil_of_length_eq_zero hqx.symm
      have hn : lnF ((ls s).drop i) = .err 3 := by unfold lnF; rw [hlc, hx]; rfl
      have HN := Lib.hid hn
      have t1 := toList_nil T zT
      clear hn hx hlc eT hqx hlen zT
      rw [show ((0 : Nat) : Int) = 0 from rfl] at fi sl2
      go_enter Tryz.func57, Tryz.ntmps57
      go_wp2_with fail
      refine (fi _).mono ?_
      rintro e w' ⟨rfl, rfl⟩
      clear fi
      go_wp2
      go_ret3
      exact .inl ⟨3, HN.out, rfl, rfl⟩
    | succ q =>
      have t1 := toList_ne T (by omega)
      have t2 := toList_ne' T (by omega)
      have hg := get_bt T
      have i3 : ((q + 1 : Nat) : Int) - 1 = (q : Int) := by omega
      obtain ⟨c, gc, ec, -, -, -⟩ := get_ls (s := T) (k := q) (by omega)
      have hlast : x.getLast? = some c := by
        rw [List.getLast?_eq_getElem?, ← hqx, ← eT]
        exact gc
      obtain ⟨Q, hQ⟩ : ∃ Q, Q = q + 1 := ⟨_, rfl⟩
      rw [← hQ] at fi sl2 zT i3 hlen hqx
      have i5 : (0 : Int) ≤ (Q : Int) := by omega
      have i6 : ¬ (Q : Int) < 0 := by omega
      have i7 : (q : Int) < (T.size : Int) := by omega
      have j7 : q < T.size := by omega
      have i8 : (Q : Int) ≤ 256 := by omega
      have hx1 : q < T.size := by omega
      by_cases h13 : c = 13
      · have e13 : (bt T q != 13) = false := by rw [ec, h13]; rfl
        have hn : lnF ((ls s).drop i) = .ok x.dropLast (x.length + 1) := by unfold lnF; rw [hlc]; simp only; rw [if_pos (by rw [hlast, h13])]
        have eD : T.extract 0 q = tx x.dropLast := ls_inj (by rw [ls_extract, ls_tx, eT, List.drop_zero, Nat.sub_zero, List.dropLast_eq_take, ← hqx, show Q - 1 = q by omega])
        rw [← hqx] at hn
        have HN := Lib.hid hn
        have ED := Lib.hid eD
        have i4 : (q : Int) ≤ (T.size : Int) := by omega
        have HZ := Lib.hid zT
        clear hn eD hlc hlast gc eT ec h13 hqx hQ hlen zT
        go_enter Tryz.func57, Tryz.ntmps57
        go_wp2_with fail
        refine (fi _).mono ?_
        rintro e w' ⟨rfl, rfl⟩
        clear fi
        go_wp2
        go_ret3
        exact .inr ⟨x.dropLast, Q + 1, HN.out, by rw [← ED.out]; congr 4, rfl⟩
      · have e13 : (bt T q != 13) = true := by rw [ec, bne_iff_ne]; exact fun h => h13 ((byte_eq c 13).1 h)
        have hn : lnF ((ls s).drop i) = .err 3 := by unfold lnF; rw [hlc]; simp only; rw [if_neg (by rw [hlast]; simpa using h13)]
        have HN := Lib.hid hn
        clear hn hlc hlast gc eT ec h13 hqx hQ hlen zT
        go_enter Tryz.func57, Tryz.ntmps57
        go_wp2_with fail
        refine (fi _).mono ?_
        rintro e w' ⟨rfl, rfl⟩
        clear fi
        go_wp2
        go_ret3
        exact .inl ⟨3, HN.out, rfl, rfl⟩
theorem rline_any (s : ByteArray) (i : Nat) (hi : i ≤ s.size) (hs : s.size ≤ 1048576) (w : World) :
    Calls Tryz.prog 57 #[.string s, .int .i64 i] w (lnPost ((ls s).drop i) i w) := by
  by_cases hc : i + 256 < s.size
  · exact rline_great s i hi hs w hc
  · exact rline_whole s i hi hs w hc
/-! ### number -/
theorem runhex_any (s : ByteArray) (m : Int) (w : World) (hs : s.size ≤ 1000) (h2 : -9223372036854775808 ≤ m) (h3 : m ≤ 9223372036854775807) :
    Calls Tryz.prog 84 #[.string s, .int .i64 m] w (NumPost (HexForm s) (hexTo s s.size) m w) := by
  by_cases h : 0 < s.size ∧ s.size ≤ 16
  · exact runhexnum_loop s m w h.1 h.2 h2 h3
  · refine Calls.mono (R := fun e w' => e = .returned (.tuple #[.int .i64 0, .int .i64 3]) ∧ w = w') ?_ fun e w' ⟨he, hw⟩ => ⟨.inl ⟨fun hf => h ⟨hf.1, hf.2.1⟩, he⟩, hw⟩
    by_cases c : s.size = 0
    · have h1 := toList_nil s c
      clear c h
      go_enter Tryz.func84, Tryz.ntmps84
      go_wp2
      go_ret2
      exact ⟨rfl, rfl⟩
    · have h1 := toList_ne s (by omega)
      have h1' := toList_ne' s (by omega)
      have h4 : 16 < s.size := by omega
      clear h c
      go_enter Tryz.func84, Tryz.ntmps84
      go_wp2
      go_ret2
      exact ⟨rfl, rfl⟩
/-- where the digits end -/
structure Digs (t : ByteArray) (k : Nat) : Prop where
  le : k ≤ t.size
  all : AllHex t k
theorem Digs.split {t : ByteArray} {k : Nat} (h : Digs t k) (he : k = t.size ∨ (k < t.size ∧ aok (bt t k) = false)) : hxP (ls t) = (ls t).take k ∧ hxR (ls t) = (ls t).drop k := by
  have hall : ∀ c ∈ (ls t).take k, hexB c = true := by
    intro c hc
    obtain ⟨j, hj, rfl⟩ := List.getElem_of_mem hc
    rw [List.length_take] at hj
    have := h.all j (by omega)
    obtain ⟨c, gc, ec, -, -, -⟩ := get_ls (s := t) (k := j) (by have := h.le; omega)
    rw [List.getElem_take]
    rw [List.getElem?_eq_getElem (by rw [ls_len]; have := h.le; omega)] at gc
    rw [Option.some.inj gc]
    unfold hexB
    rw [← ec]; exact this
  have hd : ((ls t).drop k).takeWhile hexB = [] ∧ ((ls t).drop k).dropWhile hexB = (ls t).drop k := by
    rcases he with e | ⟨hlt, ha⟩
    · rw [List.drop_of_length_le (by rw [ls_len]; omega)]; exact ⟨rfl, rfl⟩
    · obtain ⟨c, gc, ec, -, -, dc⟩ := get_ls hlt
      have hf : hexB c = false := by unfold hexB; rw [← ec]; exact ha
      rw [dc]
      simp [List.takeWhile_cons, List.dropWhile_cons, hf]
  have e : ls t = (ls t).take k ++ (ls t).drop k := (List.take_append_drop _ _).symm
  have h1 : ((ls t).take k ++ (ls t).drop k).takeWhile hexB = (ls t).take k ++ ((ls t).drop k).takeWhile hexB := List.takeWhile_append_of_pos hall
  have h2 : ((ls t).take k ++ (ls t).drop k).dropWhile hexB = ((ls t).drop k).dropWhile hexB := List.dropWhile_append_of_pos hall
  unfold hxP hxR
  rw [← e] at h1 h2
  rw [h1, h2, hd.1, hd.2, List.append_nil]
  exact ⟨rfl, rfl⟩
theorem Digs.form {t : ByteArray} {k : Nat} (h : Digs t k) : (HexForm (tx ((ls t).take k)) ↔ 0 < k ∧ k ≤ 16) := by
  have hz : (tx ((ls t).take k)).size = k := by rw [tx_size, List.length_take, ls_len]; have := h.le; omega
  unfold HexForm
  rw [hz]
  refine ⟨fun x => ⟨x.1, x.2.1⟩, fun x => ⟨x.1, x.2, ?_⟩⟩
  intro j hj
  have e : bt (tx ((ls t).take k)) j = bt t j := by
    have h1 := bt_pre ((ls t).take k) ((ls t).drop k) j (by rw [List.length_take, ls_len]; have := h.le; omega)
    rw [List.take_append_drop] at h1
    have h2 : (⟨(ls t).toArray⟩ : ByteArray) = t := tx_ls t
    rw [h2] at h1
    exact h1.symm
  rw [e]; exact h.all j hj
def numPost (t : ByteArray) (m : Int) (w : World) (e : Ending) (w' : World) : Prop := e = .returned (.tuple #[.int .i64 (szN (numF (ls t) m)), .int .i64 (szE (numF (ls t) m))]) ∧ w = w'
theorem rnumber_end (t : ByteArray) (m : Int) (k : Nat) (h : Digs t k) (he : k = t.size ∨ (k < t.size ∧ aok (bt t k) = false)) (hok : okR ((ls t).drop k) = true) (w : World) (hs : t.size ≤ 1000) (h2 : -9223372036854775808 ≤ m) (h3 : m ≤ 9223372036854775807) :
    Calls Tryz.prog 84 #[.string (t.extract 0 k), .int .i64 m] w fun e w' => ∃ a b : Int, e = .returned (.tuple #[.int .i64 a, .int .i64 b]) ∧ (b = 14 → szN (numF (ls t) m) = 0 ∧ szE (numF (ls t) m) = 4) ∧ (b ≠ 14 → a = szN (numF (ls t) m) ∧ b = szE (numF (ls t) m)) ∧ w = w' := by
  have ex : t.extract 0 k = tx ((ls t).take k) := ls_inj (by rw [ls_extract, ls_tx]; simp)
  obtain ⟨e1, e2⟩ := h.split he
  have hf := h.form
  have hl : ((ls t).take k).length = k := by rw [List.length_take, ls_len]; have := h.le; omega
  have hz : (tx ((ls t).take k)).size = k := by rw [tx_size, hl]
  have hn : numF (ls t) m = if 0 < k ∧ k ≤ 16 then (if 0 ≤ m ∧ hexTo (tx ((ls t).take k)) k ≤ m ∧ hexTo (tx ((ls t).take k)) k ≤ 4611686018427387904 then .ok (hexTo (tx ((ls t).take k)) k).toNat else .error 4) else .error 3 := by
    unfold numF numV
    rw [e1, e2, hok, hl]
    simp
  rw [ex]
  refine (runhex_any _ m w (by rw [hz]; have := h.le; omega) h2 h3).mono ?_
  rintro e w' ⟨hh, rfl⟩
  rw [hz] at hh
  have v0 := (hexTo_bd (tx ((ls t).take k)) k).1
  generalize hexTo (tx ((ls t).take k)) k = v at *
  rcases hh with ⟨h4, h5⟩ | ⟨h4, h5, h6⟩ | ⟨h4, h5, h6⟩
  · rw [if_neg (fun x => h4 (hf.2 x))] at hn
    exact ⟨0, 3, h5, fun x => by omega, fun _ => by rw [hn]; exact ⟨rfl, rfl⟩, rfl⟩
  · rw [if_pos (hf.1 h4), if_pos ⟨by have := h5.1; omega, h5.1, h5.2⟩] at hn
    exact ⟨v, 0, h6, fun x => by omega, fun _ => by rw [hn]; exact ⟨by show v = ((v.toNat : Nat) : Int); omega, rfl⟩, rfl⟩
  · rw [if_pos (hf.1 h4), if_neg (fun x => h5 ⟨x.2.1, x.2.2⟩)] at hn
    exact ⟨0, 14, h6, fun _ => by rw [hn]; exact ⟨rfl, rfl⟩, fun x => absurd rfl x, rfl⟩
theorem num_bad {t : ByteArray} {m : Int} {k : Nat} (h : Digs t k) (he : k = t.size ∨ (k < t.size ∧ aok (bt t k) = false)) (hok : okR ((ls t).drop k) = false) : szN (numF (ls t) m) = 0 ∧ szE (numF (ls t) m) = 3 := by
  obtain ⟨e1, e2⟩ := h.split he
  have hn : numF (ls t) m = .error 3 := by
    unfold numF
    rw [e2, hok]
    simp
  rw [hn]; exact ⟨rfl, rfl⟩
set_option maxHeartbeats 8000000 in
theorem rnumber_any (t : ByteArray) (m : Int) (w : World) (hs : t.size ≤ 1000) (h2 : -9223372036854775808 ≤ m) (h3 : m ≤ 9223372036854775807) :
    Calls Tryz.prog 59 #[.string t, .int .i64 m] w (numPost t m w) := by
  have hb := get_bt t
  have H2 := Lib.hid h2
  have H3 := Lib.hid h3
  clear h2 h3
  go_enter Tryz.func59, Tryz.ntmps59
  go_wp2_with fail
  go_loop [6] (fun v => ∃ k : Nat, v = .int .i64 k ∧ Hid (Digs t k) ∧ k ≤ t.size) (fun v => t.size - (intOf v).toNat)
  case atStart => exact ⟨0, rfl, Lib.hid ⟨Nat.zero_le _, AllHex.zero t⟩, Nat.zero_le _⟩
  case round =>
    obtain ⟨k, rfl, D, hk⟩ := hrel
    by_cases hlt : k < t.size
    · have l1 : (k : Int) < (t.size : Int) := by omega
      have b0 := bt_nonneg t k
      have b1 := bt_le t k
      cases ha : aok (bt t k) with
      | true =>
        have vy := fun w => value_yes (bt t k) w b0 b1 ha
        obtain ⟨v0, v1⟩ := av_bd (bt t k)
        have D2 : Hid (Digs t (k + 1)) := Lib.hid ⟨by omega, D.out.all.succ ha⟩
        clear ha
        go_wp2_with fail
        refine (vy _).mono ?_
        rintro e w' ⟨rfl, rfl⟩
        clear vy
        go_wp2
        go_round
        case rel => exact ⟨k + 1, by go_num, D2, by omega⟩
        case measure => simp [intOf]; omega
      | false =>
        have vn := fun w => value_no (bt t k) w b0 b1 ha
        have he : k = t.size ∨ (k < t.size ∧ aok (bt t k) = false) := .inr ⟨hlt, ha⟩
        obtain ⟨c, gc, ec, -, -, dc⟩ := get_ls hlt
        have ed : ls (t.extract k t.size) = (ls t).drop k := by rw [ls_extract]; exact List.take_of_length_le (by rw [List.length_drop, ls_len]; exact Nat.le_refl _)
        have rt := fun w => refText_any (t.extract k t.size) w (by rw [ByteArray.size_extract]; omega)
        rw [ed] at rt
        have hsep : sepN (bt t k) = sepB c := by rw [ec, ← sep_is]; rfl
        have hokr : okR ((ls t).drop k) = (sepB c && isTxt ((ls t).drop k)) := by rw [dc, okR_cons]
        cases hsp : sepB c with
        | false =>
          rw [hsp] at hsep hokr
          obtain ⟨z1, z2⟩ := num_bad (m := m) D.out he (by rw [hokr]; rfl)
          have Z1 := Lib.hid z1
          have Z2 := Lib.hid z2
          have n32 : (bt t k != 32) = true := by rw [bne_iff_ne]; intro e; rw [e] at hsep; simp [sepN] at hsep
          have n9 : (bt t k != 9) = true := by rw [bne_iff_ne]; intro e; rw [e] at hsep; simp [sepN] at hsep
          have n59 : (bt t k != 59) = true := by rw [bne_iff_ne]; intro e; rw [e] at hsep; simp [sepN] at hsep
          clear ha he gc ec dc ed rt hsep hokr hsp z1 z2
          go_wp2_with fail
          refine (vn _).mono ?_
          rintro e w' ⟨rfl, rfl⟩
          clear vn
          go_wp2
          go_ret2
          exact ⟨by rw [Z1.out, Z2.out]; rfl, rfl⟩
        | true =>
          rw [hsp] at hsep hokr
          have hcase : bt t k = 32 ∨ bt t k = 9 ∨ bt t k = 59 := by simp [sepN] at hsep; omega
          cases htx : isTxt ((ls t).drop k) with
          | false =>
            rw [htx] at rt hokr
            obtain ⟨z1, z2⟩ := num_bad (m := m) D.out he (by rw [hokr]; rfl)
            have Z1 := Lib.hid z1
            have Z2 := Lib.hid z2
            have i1 : (k : Int) ≤ (t.size : Int) := by omega
            have c1 : ∀ v, bt t k = v → (bt t k != 32) = (v != 32) ∧ (bt t k != 9) = (v != 9) ∧ (bt t k != 59) = (v != 59) := fun v e => by rw [e]; exact ⟨rfl, rfl, rfl⟩
            clear ha he gc ec dc ed hsep hokr hsp z1 z2 htx
            rcases hcase with e | e | e
            all_goals
              obtain ⟨n32, n9, n59⟩ := c1 _ e
              have N32 : _ := n32
              clear c1 e
              go_wp2_with fail
              refine (vn _).mono ?_
              rintro e w' ⟨rfl, rfl⟩
              clear vn
              go_wp2_with fail
              refine (rt _).mono ?_
              rintro e w' ⟨rfl, rfl⟩
              clear rt
              go_wp2
              go_ret2
              exact ⟨by rw [Z1.out, Z2.out]; rfl, rfl⟩
          | true =>
            rw [htx] at rt hokr
            have i1 : (k : Int) ≤ (t.size : Int) := by omega
            have un := fun w => rnumber_end t m k D.out he (by rw [hokr]; rfl) w hs H2.out H3.out
            have c1 : ∀ v, bt t k = v → (bt t k != 32) = (v != 32) ∧ (bt t k != 9) = (v != 9) ∧ (bt t k != 59) = (v != 59) := fun v e => by rw [e]; exact ⟨rfl, rfl, rfl⟩
            clear ha he gc ec dc ed hsep hokr hsp htx
            rcases hcase with e | e | e
            all_goals
              obtain ⟨n32, n9, n59⟩ := c1 _ e
              clear c1 e
              go_wp2_with fail
              refine (vn _).mono ?_
              rintro e w' ⟨rfl, rfl⟩
              clear vn
              go_wp2_with fail
              refine (rt _).mono ?_
              rintro e w' ⟨rfl, rfl⟩
              clear rt
              go_wp2_with fail
              refine (un _).mono ?_
              rintro e w' ⟨a, b, rfl, u1, u2, rfl⟩
              have U1 := Lib.hid u1
              have U2 := Lib.hid u2
              clear un u1 u2
              by_cases h14 : b = 14
              · obtain ⟨z1, z2⟩ := U1.out h14
                have Z1 := Lib.hid z1
                have Z2 := Lib.hid z2
                subst h14
                clear z1 z2
                go_wp2
                go_ret2
                exact ⟨by rw [Z1.out, Z2.out]; rfl, rfl⟩
              · obtain ⟨z1, z2⟩ := U2.out h14
                have Z1 := Lib.hid z1
                have Z2 := Lib.hid z2
                have g14 : (b == 14) = false := beq_eq_false_iff_ne.2 h14
                clear z1 z2 h14
                go_wp2
                go_ret2
                exact ⟨by rw [← Z1.out, ← Z2.out]; rfl, rfl⟩
    · have e0 : True := trivial
      have e : k = t.size := by omega
      have he : k = t.size ∨ (k < t.size ∧ aok (bt t k) = false) := .inl e
      have l1 : ¬ (k : Int) < (t.size : Int) := by omega
      have hd : (ls t).drop k = [] := List.drop_of_length_le (by rw [ls_len]; omega)
      have un := fun w => rnumber_end t m k D.out he (by rw [hd]; rfl) w hs H2.out H3.out
      have ed : ls (t.extract k t.size) = [] := by rw [ls_extract, hd, List.take_nil]
      have rt := fun w => refText_any (t.extract k t.size) w (by rw [ByteArray.size_extract]; omega)
      rw [ed, show isTxt [] = true from rfl] at rt
      have i1 : (k : Int) ≤ (t.size : Int) := by omega
      clear he e hd ed hlt
      go_wp2_with fail
      refine (rt _).mono ?_
      rintro e w' ⟨rfl, rfl⟩
      clear rt
      go_wp2_with fail
      refine (un _).mono ?_
      rintro e w' ⟨a, b, rfl, u1, u2, rfl⟩
      have U1 := Lib.hid u1
      have U2 := Lib.hid u2
      clear un u1 u2
      by_cases h14 : b = 14
      · obtain ⟨z1, z2⟩ := U1.out h14
        have Z1 := Lib.hid z1
        have Z2 := Lib.hid z2
        subst h14
        clear z1 z2
        go_wp2
        go_ret2
        exact ⟨by rw [Z1.out, Z2.out]; rfl, rfl⟩
      · obtain ⟨z1, z2⟩ := U2.out h14
        have Z1 := Lib.hid z1
        have Z2 := Lib.hid z2
        have g14 : (b == 14) = false := beq_eq_false_iff_ne.2 h14
        clear z1 z2 h14
        go_wp2
        go_ret2
        exact ⟨by rw [← Z1.out, ← Z2.out]; rfl, rfl⟩
end Go.Proofs.YtbngfphiachnoaaGreatDoor.Ch
