/-
  Contract of Split of the document's answers.
-/
import Derived.Test.YtbngfphiachnoaaGreatDoorFiRefP
import Derived.Test.YtbngfphiachnoaaGreatDoorSet7
namespace Go.Proofs.YtbngfphiachnoaaGreatDoor.Fi
open Go.RowKit Go.PlainAid
open Hx
set_option linter.unusedVariables false
set_option maxRecDepth 20000
set_option linter.unusedSimpArgs false

theorem w64n {m : Nat} (h : m ≤ 1099511627776) : wrap64 (m : Int) = (m : Int) := by
  unfold wrap64; omega
theorem ex_le {N : Nat} (T : ByteArray) (a b : Nat) (h : T.size ≤ N) : (T.extract a b).size ≤ N := by
  rw [ByteArray.size_extract]; omega
def fullB (s : ByteArray) : Bool := decide (4096 ≤ (ls s).length)
def restL (s : ByteArray) (k : Nat) : List UInt8 := ((ls s).take 4096).drop k
def mkH (st : List UInt8) (o : Out) : Hd := ⟨o.err, if o.err = 0 then st else [], o.list, o.n⟩
def SInv (s : ByteArray) : Bool → ByteArray → Nat → List Fd → Prop
  | true, _, k, acc => k = 0 ∧ acc = []
  | false, S, k, acc => spl (ls s) = mkH (ls S) (fldF (fullB s) (restL s k) k acc)
theorem spl_rest (s : ByteArray) : spl (ls s) = match lineF (fullB s) (restL s 0) with
    | .error e => ⟨e, [], [], 0⟩
    | .ok (x, r) => if x = [] then ⟨3, [], [], 0⟩ else if 1024 < x.length then ⟨4, [], [], 0⟩ else mkH x (fldF (fullB s) r (x.length + 2) []) := by
  unfold spl restL fullB mkH
  rw [List.drop_zero]
  rfl
theorem SInv.err {s S : ByteArray} {b : Bool} {k : Nat} {acc : List Fd} (h : SInv s b S k acc) {e : Int} (he : e ≠ 0) (hl : lineF (fullB s) (restL s k) = .error e) : spl (ls s) = ⟨e, [], [], 0⟩ := by
  cases b with
  | true =>
    obtain ⟨rfl, rfl⟩ := h
    rw [spl_rest, hl]
  | false =>
    have h' : spl (ls s) = mkH (ls S) (fldF (fullB s) (restL s k) k acc) := h
    rw [h', fldF_err k acc hl]
    unfold mkH
    simp only
    rw [if_neg he]
theorem rest_next {s : ByteArray} {k : Nat} {full : Bool} {x r : List UInt8} (h : lineF full (restL s k) = .ok (x, r)) : restL s (k + x.length + 2) = r := by
  have e := (lineF_ok h).1
  unfold restL at e ⊢
  rw [show k + x.length + 2 = k + (x.length + 2) by omega, ← List.drop_drop, e]
  rw [show x ++ 13 :: 10 :: r = (x ++ [13, 10]) ++ r by simp, List.drop_left' (by simp)]
theorem SInv.nil1 {s S : ByteArray} {k : Nat} {acc : List Fd} (h : SInv s true S k acc) {r : List UInt8} (hl : lineF (fullB s) (restL s k) = .ok ([], r)) : spl (ls s) = ⟨3, [], [], 0⟩ := by
  obtain ⟨rfl, rfl⟩ := h
  rw [spl_rest, hl]; simp
theorem SInv.long1 {s S : ByteArray} {k : Nat} {acc : List Fd} (h : SInv s true S k acc) {x r : List UInt8} (hl : lineF (fullB s) (restL s k) = .ok (x, r)) (hx : x ≠ []) (h1 : 1024 < x.length) : spl (ls s) = ⟨4, [], [], 0⟩ := by
  obtain ⟨rfl, rfl⟩ := h
  rw [spl_rest, hl]; simp only; rw [if_neg hx, if_pos h1]
theorem SInv.start {s S X : ByteArray} {k : Nat} {acc : List Fd} (h : SInv s true S k acc) {x r : List UInt8} (hl : lineF (fullB s) (restL s k) = .ok (x, r)) (hx : x ≠ []) (h1 : ¬ 1024 < x.length) (hX : ls X = x) : SInv s false X (k + x.length + 2) acc := by
  have hn := rest_next hl
  obtain ⟨rfl, rfl⟩ := h
  show spl (ls s) = mkH (ls X) (fldF (fullB s) (restL s (0 + x.length + 2)) (0 + x.length + 2) [])
  rw [hn, spl_rest, hl]; simp only; rw [if_neg hx, if_neg h1, hX, Nat.zero_add]
theorem SInv.nil2 {s S : ByteArray} {k : Nat} {acc : List Fd} (h : SInv s false S k acc) {r : List UInt8} (hl : lineF (fullB s) (restL s k) = .ok ([], r)) : spl (ls s) = ⟨0, ls S, acc, k + 2⟩ := by
  have h' : spl (ls s) = mkH (ls S) (fldF (fullB s) (restL s k) k acc) := h
  rw [h', fldF_end k acc hl]; rfl
theorem SInv.form2 {s S : ByteArray} {k : Nat} {acc : List Fd} (h : SInv s false S k acc) {x r : List UInt8} (hl : lineF (fullB s) (restL s k) = .ok (x, r)) (hx : x ≠ []) (hp : parseF x = none) : spl (ls s) = ⟨3, [], [], 0⟩ := by
  have h' : spl (ls s) = mkH (ls S) (fldF (fullB s) (restL s k) k acc) := h
  rw [h', fldF_form k acc hl hx hp]; rfl
theorem SInv.long2 {s S : ByteArray} {k : Nat} {acc : List Fd} (h : SInv s false S k acc) {x r : List UInt8} {f : Fd} (hl : lineF (fullB s) (restL s k) = .ok (x, r)) (hx : x ≠ []) (hp : parseF x = some f) (hc : acc.length = 32) : spl (ls s) = ⟨4, [], [], 0⟩ := by
  have h' : spl (ls s) = mkH (ls S) (fldF (fullB s) (restL s k) k acc) := h
  rw [h', fldF_long k acc hl hx hp hc]; rfl
theorem SInv.step2 {s S : ByteArray} {k : Nat} {acc : List Fd} (h : SInv s false S k acc) {x r : List UInt8} {f : Fd} (hl : lineF (fullB s) (restL s k) = .ok (x, r)) (hx : x ≠ []) (hp : parseF x = some f) (hc : acc.length ≠ 32) : SInv s false S (k + x.length + 2) (acc ++ [f]) := by
  have h' : spl (ls s) = mkH (ls S) (fldF (fullB s) (restL s k) k acc) := h
  show spl (ls s) = mkH (ls S) (fldF (fullB s) (restL s (k + x.length + 2)) (k + x.length + 2) (acc ++ [f]))
  rw [rest_next hl, h', fldF_step k acc hl hx hp hc]
theorem rest_ex (s : ByteArray) (k M : Nat) (hM : (M = s.size ∧ s.size ≤ 4096) ∨ M = 4096) : ls (s.extract k M) = restL s k := by
  unfold restL
  rw [ls_extract, List.drop_take]
  rcases hM with ⟨rfl, h⟩ | rfl
  · rw [List.take_of_length_le (by rw [List.length_drop, ls_len]; omega), List.take_of_length_le (by rw [List.length_drop, ls_len]; omega)]
  · rfl
theorem rest_cut {s : ByteArray} {k : Nat} {t r : List UInt8} (h : cutB 10 (restL s k) = some (t, r)) : k + t.length + 1 ≤ s.size ∧ k + t.length + 1 ≤ 4096 ∧ ls (s.extract k (k + t.length + 1)) = t ++ [10] := by
  have e := (cutB_some h).1
  have l := congrArg List.length e
  unfold restL at l e
  rw [List.drop_take] at l e
  have l2 : (((ls s).drop k).take (4096 - k)).length ≤ s.size - k := by rw [List.length_take, List.length_drop, ls_len]; omega
  have l3 : (((ls s).drop k).take (4096 - k)).length ≤ 4096 - k := by rw [List.length_take]; omega
  rw [List.length_append, List.length_cons] at l
  refine ⟨by omega, by omega, ?_⟩
  rw [ls_extract, show k + t.length + 1 - k = t.length + 1 by omega]
  have m : ((ls s).drop k).take (t.length + 1) = (((ls s).drop k).take (4096 - k)).take (t.length + 1) := by rw [List.take_take, Nat.min_eq_left (by omega)]
  rw [m, e, show t ++ 10 :: r = (t ++ [10]) ++ r by simp, List.take_left' (by simp)]
theorem line_none {full : Bool} {l : List UInt8} (h : cutB 10 l = none) : lineF full l = .error (if full = true then 4 else 17) := by unfold lineF; rw [h]
theorem line_bad {full : Bool} {l t r : List UInt8} (h : cutB 10 l = some (t, r)) (hb : ¬ (t.getLast? = some 13 ∧ (13 : UInt8) ∉ t.dropLast)) : lineF full l = .error 3 := by unfold lineF; rw [h]; simp only; rw [if_neg hb]
theorem line_good {full : Bool} {l t r : List UInt8} (h : cutB 10 l = some (t, r)) (hb : t.getLast? = some 13 ∧ (13 : UInt8) ∉ t.dropLast) : lineF full l = .ok (t.dropLast, r) := by unfold lineF; rw [h]; simp only; rw [if_pos hb]
theorem find_cr (t : List UInt8) (m : Nat) (hm : t.length = m + 1) : findI 13 (t ++ [10]) = (m : Int) ↔ (t.getLast? = some 13 ∧ (13 : UInt8) ∉ t.dropLast) := by
  obtain ⟨u, c, rfl⟩ : ∃ u c, t = u ++ [c] := ⟨t.dropLast, t.getLast (by intro e; subst e; simp at hm), (List.dropLast_concat_getLast _).symm⟩
  have hu : u.length = m := by simpa using hm
  simp only [List.getLast?_append, List.getLast?_singleton, List.dropLast_concat, Option.some_or, Option.some.injEq]
  by_cases h : (13 : UInt8) ∈ u
  · have hne : ¬ cutB 13 (u ++ [c] ++ [10]) = none := fun e => cutB_none.1 e (by simp [h])
    cases hc : cutB 13 (u ++ [c] ++ [10]) with
    | none => exact absurd hc hne
    | some p =>
      obtain ⟨x, y⟩ := p
      obtain ⟨e, hx⟩ := cutB_some hc
      rw [find_yes hc]
      constructor
      · intro hl
        have hl' : x.length = u.length := by omega
        have : x = u := by
          have := congrArg (List.take u.length) e
          rw [List.append_assoc, List.take_left' rfl, List.take_left' hl'] at this
          exact this.symm
        subst this
        exact absurd h hx
      · rintro ⟨_, h2⟩; exact absurd h h2
  · by_cases hc : c = 13
    · subst hc
      have : cutB 13 (u ++ [13] ++ [10]) = some (u, [10]) := by rw [List.append_assoc]; exact cutB_of h
      rw [find_yes this]
      exact ⟨fun _ => ⟨rfl, h⟩, fun _ => by rw [hu]⟩
    · have : cutB 13 (u ++ [c] ++ [10]) = none := cutB_none.2 (by simp [h, Ne.symm hc])
      rw [find_no this]
      exact ⟨fun e => by omega, fun e => absurd e.1 hc⟩
theorem drop_last {Ln : ByteArray} {t : List UInt8} {m : Nat} (h : ls Ln = t ++ [10]) (hm : t.length = m + 1) : ls (Ln.extract 0 m) = t.dropLast ∧ Ln.size = m + 2 := by
  have l := congrArg List.length h
  rw [ls_len] at l
  simp at l
  refine ⟨?_, by omega⟩
  rw [ls_extract, List.drop_zero, Nat.sub_zero, h, List.dropLast_eq_take, hm, List.take_append_of_le_length (by omega)]
  rfl
theorem split_ok {H : Hd} {S : ByteArray} {acc : List Fd} {n : Nat} {N : Int} {v : Value} {w w' : World} (h : H = ⟨0, ls S, acc, n⟩) (hN : N = (n : Int)) (hv : FdsAt w' v acc) (hb : Below w.heap.size w w') : SplitPost H w (.returned (.tuple #[.string S, v, .int .i64 N, .int .i64 0])) w' := by
  subst h hN
  exact ⟨_, by rw [tx_ls], hv, hb⟩
set_option maxRecDepth 200000 in
set_option maxHeartbeats 4000000 in
theorem refSplit_short (s : ByteArray) (w : World) (hs : s.size ≤ 1099511627776) (hc4 : s.size ≤ 4096) :
    Calls Tryz.prog 26 #[.string s] w (SplitPost (spl (ls s)) w) := by
  obtain ⟨i0, hi, hz0, hz1, hz2⟩ := info_parts infoFd
  have own0 : (w.alloc (.cells #[] 49)).ownsRow w.heap.size 49 2 (.slice (some ⟨w.heap.size, 0, none⟩) 0 0) 0 [] := World.ownsRow_made w #[] 0 (Nat.le_refl _) (Nat.zero_le _) rfl
  have bel0 : Below w.heap.size w (w.alloc (.cells #[] 49)) := (Below.refl _ _).alloc (Nat.le_refl _) _
  have dm : (s.size : Int) ≤ 4096 := by omega
  have dmin : min (s.size : Int) 4096 = (s.size : Int) := by omega
  have fullE : fullB s = decide (4096 ≤ s.size) := by unfold fullB; rw [ls_len]
  go_enter Tryz.func26, Tryz.ntmps26
  go_wp2
  go_loopw [6, 7, 8, 9] (fun a v i b wr => ∃ (fst : Bool) (k m : Nat) (acc : List Fd) (base : Option Addr) (cap : Nat) (S : ByteArray), k ≤ s.size ∧ m ≤ 32 ∧ a = .string S ∧ i = .int .i64 k ∧ v = .slice base m cap ∧ b = .bool fst ∧ Hid (m = acc.length) ∧ wr.ownsRow w.heap.size 49 2 (.slice base m cap) m (fdsL acc) ∧ Below w.heap.size w wr ∧ Hid (SInv s fst S k acc)) (fun _ _ i _ _ => s.size - (intOf i).toNat)
  case atStart => exact ⟨true, 0, 0, [], _, _, ⟨#[]⟩, Nat.zero_le _, Nat.zero_le _, rfl, rfl, rfl, rfl, Lib.hid rfl, own0, bel0, Lib.hid ⟨rfl, rfl⟩⟩
  case round =>
    clear own0 bel0
    obtain ⟨fst, k, m, acc, base, cap, S, hk, hm32, rfl, rfl, rfl, rfl, HM, own, bel, INV⟩ := hrel
    have hN := bel.size
    have k0 : (0 : Int) ≤ (k : Int) := Int.natCast_nonneg _
    have kM : (k : Int) ≤ s.size := by omega
    cases hc : cutB 10 (restL s k) with
    | none =>
      have r1 : ∀ w, Calls Tryz.prog 38 #[.string (s.extract k s.size), .int .u8 10] w fun e w' => e = .returned (.int .i64 (-1)) ∧ w = w' := fun w => by
        have := refFind_any (s.extract k s.size) 10 w (by rw [ByteArray.size_extract]; omega)
        rw [rest_ex s k s.size (.inl ⟨rfl, hc4⟩), find_no hc] at this
        exact this
      have L := line_none (full := fullB s) hc
      clear hc
      by_cases hf : 4096 ≤ s.size
      · have E := Lib.hid (INV.out.err (e := 4) (by decide) (by rw [L, fullE, decide_eq_true hf]; rfl))
        have hf' : (4096 : Int) ≤ (s.size : Int) := by omega
        clear L INV own fullE
        go_wp2_with fail
        refine (r1 _).mono ?_
        rintro e w1 ⟨rfl, rfl⟩
        clear r1
        go_wp2
        refine bodyPost_ret (results_tmp4 Tryz.results26 _ _ _) rfl ?_
        exact split_bad E.out bel
      · have E := Lib.hid (INV.out.err (e := 17) (by decide) (by rw [L, fullE, decide_eq_false hf]; rfl))
        have hf' : ¬ (4096 : Int) ≤ (s.size : Int) := by omega
        clear L INV own fullE
        go_wp2_with fail
        refine (r1 _).mono ?_
        rintro e w1 ⟨rfl, rfl⟩
        clear r1
        go_wp2
        refine bodyPost_ret (results_tmp4 Tryz.results26 _ _ _) rfl ?_
        exact split_bad E.out bel
    | some p =>
      obtain ⟨t, r⟩ := p
      obtain ⟨q1, q2, lsL⟩ := rest_cut hc
      obtain ⟨n, hn⟩ : ∃ n, n = t.length := ⟨_, rfl⟩
      have r1 : ∀ w, Calls Tryz.prog 38 #[.string (s.extract k s.size), .int .u8 10] w fun e w' => e = .returned (.int .i64 (n : Int)) ∧ w = w' := fun w => by
        have := refFind_any (s.extract k s.size) 10 w (by rw [ByteArray.size_extract]; omega)
        rw [rest_ex s k s.size (.inl ⟨rfl, hc4⟩), find_yes hc, ← hn] at this
        exact this
      rw [← hn] at q1 q2 lsL
      have n0 : ¬ (n : Int) < 0 := by omega
      have c1 : (k : Int) ≤ (k : Int) + (n : Int) + 1 := by omega
      have c2 : (k : Int) + (n : Int) + 1 ≤ (s.size : Int) := by omega
      by_cases hn0 : n = 0
      · have E := Lib.hid (INV.out.err (e := 3) (by decide) (line_bad hc (by
          have : t = [] := List.eq_nil_of_length_eq_zero (by omega)
          subst this; simp)))
        have LZ : (s.extract k (k + n + 1)).size < 2 := by
          have := congrArg List.length lsL
          rw [ls_len, List.length_append, ← hn, List.length_singleton] at this
          omega
        clear hc lsL INV own fullE hn hn0
        go_upto_region 6 with (fail)
        go_wp2_with fail
        refine (r1 _).mono ?_
        rintro e w1 ⟨rfl, rfl⟩
        clear r1
        go_upto_region 13 with (fail)
        generalize s.extract k (k + n + 1) = Ln at *
        have LZ' : (Ln.size : Int) < 2 := by omega
        go_wp2
        refine bodyPost_ret (results_tmp4 Tryz.results26 _ _ _) rfl ?_
        exact split_bad E.out bel
      obtain ⟨m1, hm1⟩ : ∃ m1, n = m1 + 1 := ⟨n - 1, by omega⟩
      obtain ⟨lsX, LZ⟩ := drop_last (m := m1) lsL (by omega)
      have LB : (s.extract k (k + n + 1)).size ≤ 1099511627776 := ex_le _ _ _ hs
      have r2 := fun w => refFind_any (s.extract k (k + n + 1)) 13 w (by omega)
      rw [lsL] at r2
      by_cases hok : t.getLast? = some 13 ∧ (13 : UInt8) ∉ t.dropLast
      · have L := line_good (full := fullB s) hc hok
        rw [(find_cr t m1 (by omega)).2 hok] at r2
        have LX : t.dropLast.length = m1 := by rw [List.length_dropLast]; omega
        generalize t.dropLast = x at lsX L LX
        have XZ := Lib.hid (show ((s.extract k (k + n + 1)).extract 0 m1).size = m1 by rw [← ls_len, lsX, LX])
        clear hc hok lsL hn fullE
        have L4 : (0 : Int) ≤ (m1 : Int) := Int.natCast_nonneg _
        cases fst with
        | true =>
          by_cases hx : x = []
          · subst hx
            have E := Lib.hid (INV.out.nil1 L)
            have X0 := Lib.hid (show m1 = 0 by rw [← LX]; rfl)
            clear L INV own lsX
            have HM1 := Lib.hid hm1
            clear hm1
            go_wp2_with fail
            refine (r1 _).mono ?_
            rintro e w1 ⟨rfl, rfl⟩
            clear r1
            go_upto_region 13 with (fail)
            generalize s.extract k (k + n + 1) = Ln at *
            go_wp2_with fail
            refine (r2 _).mono ?_
            rintro e w1 ⟨rfl, rfl⟩
            clear r2
            go_upto_region 16 with (fail)
            generalize Ln.extract 0 m1 = X at *
            have XZ := XZ.out
            have e1 := toList_nil X (by have := X0.out; omega)
            go_wp2
            refine bodyPost_ret (results_tmp4 Tryz.results26 _ _ _) rfl ?_
            exact split_bad E.out bel
          · by_cases hlong : 1024 < x.length
            · have E := Lib.hid (INV.out.long1 L hx hlong)
              have X0 : 1024 < m1 := by rw [← LX]; exact hlong
              clear L INV own lsX hx hlong
              have HM1 := Lib.hid hm1
              clear hm1
              go_wp2_with fail
              refine (r1 _).mono ?_
              rintro e w1 ⟨rfl, rfl⟩
              clear r1
              go_upto_region 13 with (fail)
              generalize s.extract k (k + n + 1) = Ln at *
              go_wp2_with fail
              refine (r2 _).mono ?_
              rintro e w1 ⟨rfl, rfl⟩
              clear r2
              go_upto_region 16 with (fail)
              generalize Ln.extract 0 m1 = X at *
              have XZ := XZ.out
              have e1 := toList_ne X (by omega)
              have e2 := toList_ne' X (by omega)
              have X1 : (1024 : Int) < (X.size : Int) := by omega
              go_wp2
              refine bodyPost_ret (results_tmp4 Tryz.results26 _ _ _) rfl ?_
              exact split_bad E.out bel
            · have I2 := INV.out.start (X := (s.extract k (k + n + 1)).extract 0 m1) L hx hlong lsX
              rw [show k + x.length + 2 = k + n + 1 by omega] at I2
              have X0 : ¬ 1024 < m1 := by rw [← LX]; exact hlong
              have X2 : m1 ≠ 0 := by rw [← LX]; exact fun e => hx (List.eq_nil_of_length_eq_zero e)
              clear L INV lsX hx hlong
              have HM1 := Lib.hid hm1
              clear hm1
              go_wp2_with fail
              refine (r1 _).mono ?_
              rintro e w1 ⟨rfl, rfl⟩
              clear r1
              go_upto_region 13 with (fail)
              generalize s.extract k (k + n + 1) = Ln at *
              go_wp2_with fail
              refine (r2 _).mono ?_
              rintro e w1 ⟨rfl, rfl⟩
              clear r2
              go_upto_region 16 with (fail)
              generalize Ln.extract 0 m1 = X at *
              have XZ := XZ.out
              have I3 := Lib.hid I2
              clear I2
              have e1 := toList_ne X (by omega)
              have e2 := toList_ne' X (by omega)
              have X1 : ¬ (1024 : Int) < (X.size : Int) := by omega
              go_wp2
              go_roundw
              case rel => exact ⟨false, k + n + 1, m, acc, base, cap, X, by omega, hm32, rfl, by go_num, rfl, rfl, HM, own, bel, I3⟩
              case measure => simp [intOf]; omega
        | false =>
          by_cases hx : x = []
          · subst hx
            have E := INV.out.nil2 L
            have X0 := Lib.hid (show m1 = 0 by rw [← LX]; rfl)
            have E := Lib.hid E
            clear L INV lsX
            have HM1 := Lib.hid hm1
            clear hm1
            go_wp2_with fail
            refine (r1 _).mono ?_
            rintro e w1 ⟨rfl, rfl⟩
            clear r1
            go_upto_region 13 with (fail)
            generalize s.extract k (k + n + 1) = Ln at *
            go_wp2_with fail
            refine (r2 _).mono ?_
            rintro e w1 ⟨rfl, rfl⟩
            clear r2
            go_upto_region 16 with (fail)
            generalize Ln.extract 0 m1 = X at *
            have XZ := XZ.out
            have e1 := toList_nil X (by have := X0.out; omega)
            go_wp2
            refine bodyPost_ret (results_tmp4 Tryz.results26 _ _ _) rfl ?_
            exact split_ok E.out (by have := X0.out; have := HM1.out; push_cast; omega) (owns_fds (by rw [← HM.out]; exact own)) bel
          · have z3 : ((s.extract k (k + n + 1)).extract 0 m1).size ≤ 1099511627776 := ex_le _ _ _ (ex_le _ _ _ hs)
            have r3 := fun w => refParse_any ((s.extract k (k + n + 1)).extract 0 m1) w z3
            rw [lsX] at r3
            have X2 : m1 ≠ 0 := by rw [← LX]; exact fun e => hx (List.eq_nil_of_length_eq_zero e)
            unfold ParsePost at r3
            cases hp : parseF x with
            | none =>
              obtain ⟨p1, p2⟩ := p_none hp
              rw [p1, p2] at r3
              have E := Lib.hid (INV.out.form2 L hx hp)
              clear L INV own lsX hx hp p1 p2
              have HM1 := Lib.hid hm1
              clear hm1
              go_wp2_with fail
              refine (r1 _).mono ?_
              rintro e w1 ⟨rfl, rfl⟩
              clear r1
              go_upto_region 13 with (fail)
              generalize s.extract k (k + n + 1) = Ln at *
              go_wp2_with fail
              refine (r2 _).mono ?_
              rintro e w1 ⟨rfl, rfl⟩
              clear r2
              go_upto_region 16 with (fail)
              generalize Ln.extract 0 m1 = X at *
              have XZ := XZ.out
              have e1 := toList_ne X (by omega)
              have e2 := toList_ne' X (by omega)
              go_wp2_with fail
              refine (r3 _).mono ?_
              rintro e w2 ⟨rfl, G2⟩
              have F := bel.trans (G2.mono bel.size)
              clear r3 G2 bel
              obtain ⟨w3, S3, A3, G3, Z3⟩ := fd_keep w2 Fd.zero
              replace F := F.trans (G3.mono F.size)
              clear A3 G3 Z3
              go_wp2_with (refine wpl_store S3 rfl rfl rfl rfl rfl ?_)
              refine bodyPost_ret (results_tmp4 Tryz.results26 _ _ _) rfl ?_
              exact split_bad E.out F
            | some f =>
              obtain ⟨p1, p2⟩ := p_some hp
              rw [p1, p2] at r3
              clear p1 p2
              by_cases hc32 : m = 32
              · have E := Lib.hid (INV.out.long2 L hx hp (by rw [← HM.out]; exact hc32))
                have g : (32 : Int) ≤ (m : Int) := by omega
                clear L INV own lsX hx hp
                have HM1 := Lib.hid hm1
                clear hm1
                go_wp2_with fail
                refine (r1 _).mono ?_
                rintro e w1 ⟨rfl, rfl⟩
                clear r1
                go_upto_region 13 with (fail)
                generalize s.extract k (k + n + 1) = Ln at *
                go_wp2_with fail
                refine (r2 _).mono ?_
                rintro e w1 ⟨rfl, rfl⟩
                clear r2
                go_upto_region 16 with (fail)
                generalize Ln.extract 0 m1 = X at *
                have XZ := XZ.out
                have e1 := toList_ne X (by omega)
                have e2 := toList_ne' X (by omega)
                go_wp2_with fail
                refine (r3 _).mono ?_
                rintro e w2 ⟨rfl, G2⟩
                have F := bel.trans (G2.mono bel.size)
                clear r3 G2 bel
                obtain ⟨w3, S3, A3, G3, Z3⟩ := fd_keep w2 f
                replace F := F.trans (G3.mono F.size)
                clear A3 G3 Z3
                go_wp2_with (refine wpl_store S3 rfl rfl rfl rfl rfl ?_)
                refine bodyPost_ret (results_tmp4 Tryz.results26 _ _ _) rfl ?_
                exact split_bad E.out F
              · have I2 := INV.out.step2 L hx hp (by rw [← HM.out]; exact hc32)
                rw [show k + x.length + 2 = k + n + 1 by omega] at I2
                have I3 := Lib.hid I2
                have g : ¬ (32 : Int) ≤ (m : Int) := by omega
                clear L INV lsX hx hp I2
                have HM1 := Lib.hid hm1
                clear hm1
                go_wp2_with fail
                refine (r1 _).mono ?_
                rintro e w1 ⟨rfl, rfl⟩
                clear r1
                go_upto_region 13 with (fail)
                generalize s.extract k (k + n + 1) = Ln at *
                go_wp2_with fail
                refine (r2 _).mono ?_
                rintro e w1 ⟨rfl, rfl⟩
                clear r2
                go_upto_region 16 with (fail)
                generalize Ln.extract 0 m1 = X at *
                have XZ := XZ.out
                have e1 := toList_ne X (by omega)
                have e2 := toList_ne' X (by omega)
                go_wp2_with fail
                refine (r3 _).mono ?_
                rintro e w2 ⟨rfl, G2⟩
                have F := bel.trans (G2.mono bel.size)
                have own1 := owns_below own G2
                clear r3 G2 bel own
                obtain ⟨w3, S3, A3, G3, Z3⟩ := fd_keep w2 f
                replace F := F.trans (G3.mono F.size)
                replace own1 := owns_below own1 G3
                have LD := fd_loads A3
                clear A3 G3 Z3
                have hN := F.size
                go_upto_region 25 with (refine wpl_store S3 rfl rfl rfl rfl rfl ?_)
                clear S3
                generalize w2.heap.size = B at LD ⊢
                go_upto_region 29 with (fail)
                go_wp2_with (first | refine wpl_load LD rfl rfl rfl ?_ | refine wpl_build (fdV_size f) rfl rfl rfl ?_ | (at_builtin; refine wpList_append_own _ rfl _ _ 28 rfl w.heap.size 49 i0 (.agg #[.string ⟨#[]⟩, .string ⟨#[]⟩]) 2 32 Tryz.underlying28 hi hz0 hz1 hz2 rfl (by decide) _ _ _ rfl (own1.alloc _) ⟨w3.heap.size, 0, none⟩ 1 1 (fdL f) rfl ?c0 ?c1 (fdL_one f) ?c3 ?c4 ?c5 ?_))
                case c0 => rfl
                case c1 => exact new_fd w3 f
                case c3 => unfold maxLen; omega
                case c4 => omega
                case c5 => simp; omega
                intro v' w4 own4 hgrow _
                have own5 : w4.ownsRow w.heap.size 49 2 v' (m + 1) (fdsL (acc ++ [f])) := by
                  rw [fdsL_snoc]
                  exact own4
                have bel5 := (F.alloc F.size (.cells (fdV f) 49)).grown hgrow (by simp; omega) (fun j hj => (own1.lt j hj).1)
                clear own4 own1 F hgrow LD
                obtain ⟨base', cap', rfl⟩ := own_shape own5
                go_wp2
                go_roundw
                case rel => exact ⟨false, k + n + 1, m + 1, acc ++ [f], base', cap', S, by omega, by omega, rfl, by go_num, rfl, rfl, Lib.hid (by rw [List.length_append, ← HM.out]; rfl), own5, bel5, I3⟩
                case measure => simp [intOf]; omega
      · have E := Lib.hid (INV.out.err (e := 3) (by decide) (line_bad hc hok))
        have hz : findI 13 (t ++ [10]) ≠ (m1 : Int) := fun e => hok ((find_cr t m1 (by omega)).1 e)
        generalize findI 13 (t ++ [10]) = z at r2 hz
        have g : (z != (m1 : Int)) = true := by rw [bne_iff_ne]; exact hz
        clear hc hok lsL INV own lsX fullE hn hz
        have HM1 := Lib.hid hm1
        clear hm1
        go_wp2_with fail
        refine (r1 _).mono ?_
        rintro e w1 ⟨rfl, rfl⟩
        clear r1
        go_upto_region 13 with (fail)
        generalize s.extract k (k + n + 1) = Ln at *
        go_wp2_with fail
        refine (r2 _).mono ?_
        rintro e w1 ⟨rfl, rfl⟩
        clear r2
        go_wp2
        refine bodyPost_ret (results_tmp4 Tryz.results26 _ _ _) rfl ?_
        exact split_bad E.out bel
set_option maxRecDepth 200000 in
set_option maxHeartbeats 4000000 in
theorem refSplit_long (s : ByteArray) (w : World) (hs : s.size ≤ 1099511627776) (hc4 : 4096 < s.size) :
    Calls Tryz.prog 26 #[.string s] w (SplitPost (spl (ls s)) w) := by
  obtain ⟨i0, hi, hz0, hz1, hz2⟩ := info_parts infoFd
  have own0 : (w.alloc (.cells #[] 49)).ownsRow w.heap.size 49 2 (.slice (some ⟨w.heap.size, 0, none⟩) 0 0) 0 [] := World.ownsRow_made w #[] 0 (Nat.le_refl _) (Nat.zero_le _) rfl
  have bel0 : Below w.heap.size w (w.alloc (.cells #[] 49)) := (Below.refl _ _).alloc (Nat.le_refl _) _
  have dm : ¬ (s.size : Int) ≤ 4096 := by omega
  have dm2 : (4096 : Int) ≤ (s.size : Int) := by omega
  have dmin : min (s.size : Int) 4096 = 4096 := by omega
  have fullE : fullB s = decide (4096 ≤ s.size) := by unfold fullB; rw [ls_len]
  go_enter Tryz.func26, Tryz.ntmps26
  go_wp2
  go_loopw [6, 7, 8, 9] (fun a v i b wr => ∃ (fst : Bool) (k m : Nat) (acc : List Fd) (base : Option Addr) (cap : Nat) (S : ByteArray), k ≤ 4096 ∧ m ≤ 32 ∧ a = .string S ∧ i = .int .i64 k ∧ v = .slice base m cap ∧ b = .bool fst ∧ Hid (m = acc.length) ∧ wr.ownsRow w.heap.size 49 2 (.slice base m cap) m (fdsL acc) ∧ Below w.heap.size w wr ∧ Hid (SInv s fst S k acc)) (fun _ _ i _ _ => 4096 - (intOf i).toNat)
  case atStart => exact ⟨true, 0, 0, [], _, _, ⟨#[]⟩, Nat.zero_le _, Nat.zero_le _, rfl, rfl, rfl, rfl, Lib.hid rfl, own0, bel0, Lib.hid ⟨rfl, rfl⟩⟩
  case round =>
    clear own0 bel0
    obtain ⟨fst, k, m, acc, base, cap, S, hk, hm32, rfl, rfl, rfl, rfl, HM, own, bel, INV⟩ := hrel
    have hN := bel.size
    have k0 : (0 : Int) ≤ (k : Int) := Int.natCast_nonneg _
    have kM : (k : Int) ≤ 4096 := by omega
    cases hc : cutB 10 (restL s k) with
    | none =>
      have r1 : ∀ w, Calls Tryz.prog 38 #[.string (s.extract k 4096), .int .u8 10] w fun e w' => e = .returned (.int .i64 (-1)) ∧ w = w' := fun w => by
        have := refFind_any (s.extract k 4096) 10 w (by rw [ByteArray.size_extract]; omega)
        rw [rest_ex s k 4096 (.inr rfl), find_no hc] at this
        exact this
      have L := line_none (full := fullB s) hc
      clear hc
      by_cases hf : 4096 ≤ s.size
      · have E := Lib.hid (INV.out.err (e := 4) (by decide) (by rw [L, fullE, decide_eq_true hf]; rfl))
        have hf' : (4096 : Int) ≤ (s.size : Int) := by omega
        clear L INV own fullE
        go_wp2_with fail
        refine (r1 _).mono ?_
        rintro e w1 ⟨rfl, rfl⟩
        clear r1
        go_wp2
        refine bodyPost_ret (results_tmp4 Tryz.results26 _ _ _) rfl ?_
        exact split_bad E.out bel
      · exact absurd (Nat.le_of_lt hc4) hf
    | some p =>
      obtain ⟨t, r⟩ := p
      obtain ⟨q1, q2, lsL⟩ := rest_cut hc
      obtain ⟨n, hn⟩ : ∃ n, n = t.length := ⟨_, rfl⟩
      have r1 : ∀ w, Calls Tryz.prog 38 #[.string (s.extract k 4096), .int .u8 10] w fun e w' => e = .returned (.int .i64 (n : Int)) ∧ w = w' := fun w => by
        have := refFind_any (s.extract k 4096) 10 w (by rw [ByteArray.size_extract]; omega)
        rw [rest_ex s k 4096 (.inr rfl), find_yes hc, ← hn] at this
        exact this
      rw [← hn] at q1 q2 lsL
      have n0 : ¬ (n : Int) < 0 := by omega
      have c1 : (k : Int) ≤ (k : Int) + (n : Int) + 1 := by omega
      have c2 : (k : Int) + (n : Int) + 1 ≤ (s.size : Int) := by omega
      by_cases hn0 : n = 0
      · have E := Lib.hid (INV.out.err (e := 3) (by decide) (line_bad hc (by
          have : t = [] := List.eq_nil_of_length_eq_zero (by omega)
          subst this; simp)))
        have LZ : (s.extract k (k + n + 1)).size < 2 := by
          have := congrArg List.length lsL
          rw [ls_len, List.length_append, ← hn, List.length_singleton] at this
          omega
        clear hc lsL INV own fullE hn hn0
        go_upto_region 6 with (fail)
        go_wp2_with fail
        refine (r1 _).mono ?_
        rintro e w1 ⟨rfl, rfl⟩
        clear r1
        go_upto_region 13 with (fail)
        generalize s.extract k (k + n + 1) = Ln at *
        have LZ' : (Ln.size : Int) < 2 := by omega
        go_wp2
        refine bodyPost_ret (results_tmp4 Tryz.results26 _ _ _) rfl ?_
        exact split_bad E.out bel
      obtain ⟨m1, hm1⟩ : ∃ m1, n = m1 + 1 := ⟨n - 1, by omega⟩
      obtain ⟨lsX, LZ⟩ := drop_last (m := m1) lsL (by omega)
      have LB : (s.extract k (k + n + 1)).size ≤ 1099511627776 := ex_le _ _ _ hs
      have r2 := fun w => refFind_any (s.extract k (k + n + 1)) 13 w (by omega)
      rw [lsL] at r2
      by_cases hok : t.getLast? = some 13 ∧ (13 : UInt8) ∉ t.dropLast
      · have L := line_good (full := fullB s) hc hok
        rw [(find_cr t m1 (by omega)).2 hok] at r2
        have LX : t.dropLast.length = m1 := by rw [List.length_dropLast]; omega
        generalize t.dropLast = x at lsX L LX
        have XZ := Lib.hid (show ((s.extract k (k + n + 1)).extract 0 m1).size = m1 by rw [← ls_len, lsX, LX])
        clear hc hok lsL hn fullE
        have L4 : (0 : Int) ≤ (m1 : Int) := Int.natCast_nonneg _
        cases fst with
        | true =>
          by_cases hx : x = []
          · subst hx
            have E := Lib.hid (INV.out.nil1 L)
            have X0 := Lib.hid (show m1 = 0 by rw [← LX]; rfl)
            clear L INV own lsX
            have HM1 := Lib.hid hm1
            clear hm1
            go_wp2_with fail
            refine (r1 _).mono ?_
            rintro e w1 ⟨rfl, rfl⟩
            clear r1
            go_upto_region 13 with (fail)
            generalize s.extract k (k + n + 1) = Ln at *
            go_wp2_with fail
            refine (r2 _).mono ?_
            rintro e w1 ⟨rfl, rfl⟩
            clear r2
            go_upto_region 16 with (fail)
            generalize Ln.extract 0 m1 = X at *
            have XZ := XZ.out
            have e1 := toList_nil X (by have := X0.out; omega)
            go_wp2
            refine bodyPost_ret (results_tmp4 Tryz.results26 _ _ _) rfl ?_
            exact split_bad E.out bel
          · by_cases hlong : 1024 < x.length
            · have E := Lib.hid (INV.out.long1 L hx hlong)
              have X0 : 1024 < m1 := by rw [← LX]; exact hlong
              clear L INV own lsX hx hlong
              have HM1 := Lib.hid hm1
              clear hm1
              go_wp2_with fail
              refine (r1 _).mono ?_
              rintro e w1 ⟨rfl, rfl⟩
              clear r1
              go_upto_region 13 with (fail)
              generalize s.extract k (k + n + 1) = Ln at *
              go_wp2_with fail
              refine (r2 _).mono ?_
              rintro e w1 ⟨rfl, rfl⟩
              clear r2
              go_upto_region 16 with (fail)
              generalize Ln.extract 0 m1 = X at *
              have XZ := XZ.out
              have e1 := toList_ne X (by omega)
              have e2 := toList_ne' X (by omega)
              have X1 : (1024 : Int) < (X.size : Int) := by omega
              go_wp2
              refine bodyPost_ret (results_tmp4 Tryz.results26 _ _ _) rfl ?_
              exact split_bad E.out bel
            · have I2 := INV.out.start (X := (s.extract k (k + n + 1)).extract 0 m1) L hx hlong lsX
              rw [show k + x.length + 2 = k + n + 1 by omega] at I2
              have X0 : ¬ 1024 < m1 := by rw [← LX]; exact hlong
              have X2 : m1 ≠ 0 := by rw [← LX]; exact fun e => hx (List.eq_nil_of_length_eq_zero e)
              clear L INV lsX hx hlong
              have HM1 := Lib.hid hm1
              clear hm1
              go_wp2_with fail
              refine (r1 _).mono ?_
              rintro e w1 ⟨rfl, rfl⟩
              clear r1
              go_upto_region 13 with (fail)
              generalize s.extract k (k + n + 1) = Ln at *
              go_wp2_with fail
              refine (r2 _).mono ?_
              rintro e w1 ⟨rfl, rfl⟩
              clear r2
              go_upto_region 16 with (fail)
              generalize Ln.extract 0 m1 = X at *
              have XZ := XZ.out
              have I3 := Lib.hid I2
              clear I2
              have e1 := toList_ne X (by omega)
              have e2 := toList_ne' X (by omega)
              have X1 : ¬ (1024 : Int) < (X.size : Int) := by omega
              go_wp2
              go_roundw
              case rel => exact ⟨false, k + n + 1, m, acc, base, cap, X, by omega, hm32, rfl, by go_num, rfl, rfl, HM, own, bel, I3⟩
              case measure => simp [intOf]; omega
        | false =>
          by_cases hx : x = []
          · subst hx
            have E := INV.out.nil2 L
            have X0 := Lib.hid (show m1 = 0 by rw [← LX]; rfl)
            have E := Lib.hid E
            clear L INV lsX
            have HM1 := Lib.hid hm1
            clear hm1
            go_wp2_with fail
            refine (r1 _).mono ?_
            rintro e w1 ⟨rfl, rfl⟩
            clear r1
            go_upto_region 13 with (fail)
            generalize s.extract k (k + n + 1) = Ln at *
            go_wp2_with fail
            refine (r2 _).mono ?_
            rintro e w1 ⟨rfl, rfl⟩
            clear r2
            go_upto_region 16 with (fail)
            generalize Ln.extract 0 m1 = X at *
            have XZ := XZ.out
            have e1 := toList_nil X (by have := X0.out; omega)
            go_wp2
            refine bodyPost_ret (results_tmp4 Tryz.results26 _ _ _) rfl ?_
            exact split_ok E.out (by have := X0.out; have := HM1.out; push_cast; omega) (owns_fds (by rw [← HM.out]; exact own)) bel
          · have z3 : ((s.extract k (k + n + 1)).extract 0 m1).size ≤ 1099511627776 := ex_le _ _ _ (ex_le _ _ _ hs)
            have r3 := fun w => refParse_any ((s.extract k (k + n + 1)).extract 0 m1) w z3
            rw [lsX] at r3
            have X2 : m1 ≠ 0 := by rw [← LX]; exact fun e => hx (List.eq_nil_of_length_eq_zero e)
            unfold ParsePost at r3
            cases hp : parseF x with
            | none =>
              obtain ⟨p1, p2⟩ := p_none hp
              rw [p1, p2] at r3
              have E := Lib.hid (INV.out.form2 L hx hp)
              clear L INV own lsX hx hp p1 p2
              have HM1 := Lib.hid hm1
              clear hm1
              go_wp2_with fail
              refine (r1 _).mono ?_
              rintro e w1 ⟨rfl, rfl⟩
              clear r1
              go_upto_region 13 with (fail)
              generalize s.extract k (k + n + 1) = Ln at *
              go_wp2_with fail
              refine (r2 _).mono ?_
              rintro e w1 ⟨rfl, rfl⟩
              clear r2
              go_upto_region 16 with (fail)
              generalize Ln.extract 0 m1 = X at *
              have XZ := XZ.out
              have e1 := toList_ne X (by omega)
              have e2 := toList_ne' X (by omega)
              go_wp2_with fail
              refine (r3 _).mono ?_
              rintro e w2 ⟨rfl, G2⟩
              have F := bel.trans (G2.mono bel.size)
              clear r3 G2 bel
              obtain ⟨w3, S3, A3, G3, Z3⟩ := fd_keep w2 Fd.zero
              replace F := F.trans (G3.mono F.size)
              clear A3 G3 Z3
              go_wp2_with (refine wpl_store S3 rfl rfl rfl rfl rfl ?_)
              refine bodyPost_ret (results_tmp4 Tryz.results26 _ _ _) rfl ?_
              exact split_bad E.out F
            | some f =>
              obtain ⟨p1, p2⟩ := p_some hp
              rw [p1, p2] at r3
              clear p1 p2
              by_cases hc32 : m = 32
              · have E := Lib.hid (INV.out.long2 L hx hp (by rw [← HM.out]; exact hc32))
                have g : (32 : Int) ≤ (m : Int) := by omega
                clear L INV own lsX hx hp
                have HM1 := Lib.hid hm1
                clear hm1
                go_wp2_with fail
                refine (r1 _).mono ?_
                rintro e w1 ⟨rfl, rfl⟩
                clear r1
                go_upto_region 13 with (fail)
                generalize s.extract k (k + n + 1) = Ln at *
                go_wp2_with fail
                refine (r2 _).mono ?_
                rintro e w1 ⟨rfl, rfl⟩
                clear r2
                go_upto_region 16 with (fail)
                generalize Ln.extract 0 m1 = X at *
                have XZ := XZ.out
                have e1 := toList_ne X (by omega)
                have e2 := toList_ne' X (by omega)
                go_wp2_with fail
                refine (r3 _).mono ?_
                rintro e w2 ⟨rfl, G2⟩
                have F := bel.trans (G2.mono bel.size)
                clear r3 G2 bel
                obtain ⟨w3, S3, A3, G3, Z3⟩ := fd_keep w2 f
                replace F := F.trans (G3.mono F.size)
                clear A3 G3 Z3
                go_wp2_with (refine wpl_store S3 rfl rfl rfl rfl rfl ?_)
                refine bodyPost_ret (results_tmp4 Tryz.results26 _ _ _) rfl ?_
                exact split_bad E.out F
              · have I2 := INV.out.step2 L hx hp (by rw [← HM.out]; exact hc32)
                rw [show k + x.length + 2 = k + n + 1 by omega] at I2
                have I3 := Lib.hid I2
                have g : ¬ (32 : Int) ≤ (m : Int) := by omega
                clear L INV lsX hx hp I2
                have HM1 := Lib.hid hm1
                clear hm1
                go_wp2_with fail
                refine (r1 _).mono ?_
                rintro e w1 ⟨rfl, rfl⟩
                clear r1
                go_upto_region 13 with (fail)
                generalize s.extract k (k + n + 1) = Ln at *
                go_wp2_with fail
                refine (r2 _).mono ?_
                rintro e w1 ⟨rfl, rfl⟩
                clear r2
                go_upto_region 16 with (fail)
                generalize Ln.extract 0 m1 = X at *
                have XZ := XZ.out
                have e1 := toList_ne X (by omega)
                have e2 := toList_ne' X (by omega)
                go_wp2_with fail
                refine (r3 _).mono ?_
                rintro e w2 ⟨rfl, G2⟩
                have F := bel.trans (G2.mono bel.size)
                have own1 := owns_below own G2
                clear r3 G2 bel own
                obtain ⟨w3, S3, A3, G3, Z3⟩ := fd_keep w2 f
                replace F := F.trans (G3.mono F.size)
                replace own1 := owns_below own1 G3
                have LD := fd_loads A3
                clear A3 G3 Z3
                have hN := F.size
                go_upto_region 25 with (refine wpl_store S3 rfl rfl rfl rfl rfl ?_)
                clear S3
                generalize w2.heap.size = B at LD ⊢
                go_upto_region 29 with (fail)
                go_wp2_with (first | refine wpl_load LD rfl rfl rfl ?_ | refine wpl_build (fdV_size f) rfl rfl rfl ?_ | (at_builtin; refine wpList_append_own _ rfl _ _ 28 rfl w.heap.size 49 i0 (.agg #[.string ⟨#[]⟩, .string ⟨#[]⟩]) 2 32 Tryz.underlying28 hi hz0 hz1 hz2 rfl (by decide) _ _ _ rfl (own1.alloc _) ⟨w3.heap.size, 0, none⟩ 1 1 (fdL f) rfl ?c0 ?c1 (fdL_one f) ?c3 ?c4 ?c5 ?_))
                case c0 => rfl
                case c1 => exact new_fd w3 f
                case c3 => unfold maxLen; omega
                case c4 => omega
                case c5 => simp; omega
                intro v' w4 own4 hgrow _
                have own5 : w4.ownsRow w.heap.size 49 2 v' (m + 1) (fdsL (acc ++ [f])) := by
                  rw [fdsL_snoc]
                  exact own4
                have bel5 := (F.alloc F.size (.cells (fdV f) 49)).grown hgrow (by simp; omega) (fun j hj => (own1.lt j hj).1)
                clear own4 own1 F hgrow LD
                obtain ⟨base', cap', rfl⟩ := own_shape own5
                go_wp2
                go_roundw
                case rel => exact ⟨false, k + n + 1, m + 1, acc ++ [f], base', cap', S, by omega, by omega, rfl, by go_num, rfl, rfl, Lib.hid (by rw [List.length_append, ← HM.out]; rfl), own5, bel5, I3⟩
                case measure => simp [intOf]; omega
      · have E := Lib.hid (INV.out.err (e := 3) (by decide) (line_bad hc hok))
        have hz : findI 13 (t ++ [10]) ≠ (m1 : Int) := fun e => hok ((find_cr t m1 (by omega)).1 e)
        generalize findI 13 (t ++ [10]) = z at r2 hz
        have g : (z != (m1 : Int)) = true := by rw [bne_iff_ne]; exact hz
        clear hc hok lsL INV own lsX fullE hn hz
        have HM1 := Lib.hid hm1
        clear hm1
        go_wp2_with fail
        refine (r1 _).mono ?_
        rintro e w1 ⟨rfl, rfl⟩
        clear r1
        go_upto_region 13 with (fail)
        generalize s.extract k (k + n + 1) = Ln at *
        go_wp2_with fail
        refine (r2 _).mono ?_
        rintro e w1 ⟨rfl, rfl⟩
        clear r2
        go_wp2
        refine bodyPost_ret (results_tmp4 Tryz.results26 _ _ _) rfl ?_
        exact split_bad E.out bel
theorem refSplit_any (s : ByteArray) (w : World) (hs : s.size ≤ 1099511627776) :
    Calls Tryz.prog 26 #[.string s] w (SplitPost (spl (ls s)) w) := by
  by_cases hc : s.size ≤ 4096
  · exact refSplit_short s w hs hc
  · exact refSplit_long s w hs (by omega)
end Go.Proofs.YtbngfphiachnoaaGreatDoor.Fi
