/-
  Contracts of real.undigits, real.Parse and mancipleref05.Parse: for every text of at most 2^40 bytes the number of which it is the text, or ErrForm; nothing that was there is changed. There and back, in plain terms.
-/
import Derived.Test.YtmfhokbognlhbaaRlAwake
namespace Go.Proofs.Ytmfhokbognlhbaa.Rl
open Go.RowKit Go.PlainAid
open Hx
set_option linter.unusedVariables false

/-- the number of k bytes, the highest first -/
def num (g : Nat → Int) : Nat → Int
  | 0 => 0
  | k + 1 => num g k * 256 + g k
theorem num_bd (g : Nat → Int) (h : ∀ k, 0 ≤ g k ∧ g k ≤ 255) : ∀ k, 0 ≤ num g k ∧ num g k < 256 ^ k
  | 0 => by simp [num]
  | k + 1 => by
    have ih := num_bd g h k
    have := h k
    simp only [num, Int.pow_succ]
    omega
theorem bt_bd (s : ByteArray) (k : Nat) : 0 ≤ bt s k ∧ bt s k ≤ 255 := ⟨bt_nonneg s k, bt_le s k⟩
theorem num8 (s : ByteArray) (k : Nat) (h : k ≤ 8) : 0 ≤ num (bt s) k ∧ num (bt s) k < 18446744073709551616 := by
  have := num_bd (bt s) (bt_bd s) k
  have p : (256 : Int) ^ k ≤ 256 ^ 8 := by
    have : ∀ k : Fin 9, (256 : Int) ^ k.val ≤ 256 ^ 8 := by decide
    exact this ⟨k, by omega⟩
  have : (256 : Int) ^ 8 = 18446744073709551616 := by decide
  omega
theorem num7 (s : ByteArray) (k : Nat) (h : k < 8) : num (bt s) k < 72057594037927936 := by
  have := num_bd (bt s) (bt_bd s) k
  have p : (256 : Int) ^ k ≤ 256 ^ 7 := by
    have : ∀ k : Fin 8, (256 : Int) ^ k.val ≤ 256 ^ 7 := by decide
    exact this ⟨k, by omega⟩
  have : (256 : Int) ^ 7 = 72057594037927936 := by decide
  omega
theorem bl_num (s : ByteArray) : ∀ k, k ≤ s.size → bl k (num (bt s) k).toNat = s.data.toList.take k
  | 0, _ => by simp [bl]
  | k + 1, h => by
    have ih := bl_num s k (by omega)
    have b := num_bd (bt s) (bt_bd s) k
    have c := bt_bd s k
    rw [bl, take_snoc s k (by omega), num]
    rw [show (num (bt s) k * 256 + bt s k).toNat / 256 = (num (bt s) k).toNat by omega, ih]
    congr 2
    apply UInt8.toNat_inj.1
    rw [byte_nat]
    have := bt_get s k (by omega)
    omega
theorem bl_inj : ∀ k x y, x < 256 ^ k → y < 256 ^ k → bl k x = bl k y → x = y
  | 0, x, y, hx, hy, _ => by simp at hx hy; omega
  | k + 1, x, y, hx, hy, h => by
    rw [Nat.pow_succ] at hx hy
    have h1 := List.append_inj' h rfl
    have ih := bl_inj k (x / 256) (y / 256) (by omega) (by omega) h1.1
    have h2 : UInt8.ofNat x = UInt8.ofNat y := by simpa using h1.2
    have h3 := congrArg UInt8.toNat h2
    rw [byte_nat, byte_nat] at h3
    omega
theorem or256 (x d : Int) (h0 : 0 ≤ x) (h1 : x < 72057594037927936) (h2 : 0 ≤ d) (h3 : d ≤ 255) : bits .or .u64 (x * 256) d = x * 256 + d :=
  bits_join .u64 64 (by decide) wraps_u64 8 (x * 256) d (by omega) (by omega) (by omega) h2 (by omega) (by omega)

theorem undigits_bad (s : ByteArray) (w : World) (hs : s.size ≤ 1099511627776) (h : s.size ≠ 16) :
    Calls Try.prog 41 #[.string s] w fun e w' => e = .returned (.tuple #[.float .f64 0, .bool false]) ∧ Below w.heap.size w w' := by
  have c : ((s.size : Int) != 16) = true := by rw [bne_iff_ne]; omega
  go_enter Try.func41, Try.ntmps41
  go_wp2
  all_goals go_ret2
  all_goals exact ⟨rfl, Below.refl _ _⟩
theorem undigits_no (s : ByteArray) (w : World) (h : s.size = 16) (hf : ¬ UnForm s) :
    Calls Try.prog 41 #[.string s] w fun e w' => e = .returned (.tuple #[.float .f64 0, .bool false]) ∧ Below w.heap.size w w' := by
  have c : ((s.size : Int) != 16) = false := by rw [bne_eq_false_iff_eq]; omega
  have u := unhex_no s w (by omega) hf
  clear hf
  go_enter Try.func41, Try.ntmps41
  go_wp2_with fail
  refine u.mono ?_
  rintro e w1 ⟨rfl, hb⟩
  clear u
  go_wp2
  all_goals go_ret2
  all_goals exact ⟨rfl, hb⟩
/-- the number that 16 digits are -/
def xv (s : ByteArray) : Nat := (num (bt ⟨(unTo s 8).toArray⟩) 8).toNat
theorem xv_lt (s : ByteArray) : xv s < 18446744073709551616 := by
  have := num8 ⟨(unTo s 8).toArray⟩ 8 (by omega)
  unfold xv; omega
theorem bl_xv (s : ByteArray) : bl 8 (xv s) = unTo s 8 := by
  have hz : (⟨(unTo s 8).toArray⟩ : ByteArray).size = 8 := by rw [size_mk, unTo_len]
  unfold xv
  rw [bl_num _ 8 (by omega)]
  exact List.take_of_length_le (by rw [get_len, hz]; exact Nat.le_refl _)
set_option maxHeartbeats 800000 in
theorem undigits_yes (s : ByteArray) (w : World) (h : s.size = 16) (hf : UnForm s) :
    Calls Try.prog 41 #[.string s] w fun e w' => e = .returned (.tuple #[.float .f64 (xv s), .bool true]) ∧ Below w.heap.size w w' := by
  have c : ((s.size : Int) != 16) = false := by rw [bne_eq_false_iff_eq]; omega
  have u := unhex_yes s w (by omega) hf
  rw [show s.size / 2 = 8 by omega] at u
  have hz : (⟨(unTo s 8).toArray⟩ : ByteArray).size = 8 := by rw [size_mk, unTo_len]
  have X : Hid ((xv s : Int) = num (bt ⟨(unTo s 8).toArray⟩) 8) := Lib.hid (by have := num8 ⟨(unTo s 8).toArray⟩ 8 (by omega); unfold xv; omega)
  have r2 := run_from
  generalize (⟨(unTo s 8).toArray⟩ : ByteArray) = t at *
  generalize xv s = x at *
  clear hf
  go_enter Try.func41, Try.ntmps41
  go_wp2_with fail
  refine u.mono ?_
  rintro e w1 ⟨rfl, hbel⟩
  clear u
  go_wp2
  go_loopw [6, 7] (fun b i wr => ∃ (k : Nat) (N : Int), k ≤ 8 ∧ b = .int .u64 N ∧ i = .int .i64 k ∧ N = num (bt t) k ∧ Below w.heap.size w wr) (fun _ i _ => 8 - (intOf i).toNat)
  case atStart => exact ⟨0, 0, by omega, rfl, rfl, rfl, hbel⟩
  case round =>
    obtain ⟨k, N, hk, rfl, rfl, hN, hbel⟩ := hrel
    have bd := num8 t k hk
    rw [← hN] at bd
    have HN := Lib.hid hN
    have hg := get_bt t
    obtain ⟨n0, n1⟩ := bd
    by_cases hlt : k < 8
    · have g0 := bt_nonneg t k
      have g1 := bt_le t k
      have n2 := num7 t k hlt
      rw [← hN] at n2
      clear hN
      have o := or256 N (bt t k) n0 n2 g0 g1
      go_wp2
      go_roundw
      case rel => exact ⟨k + 1, _, by omega, rfl, by go_num, by rw [num, ← HN.out], hbel⟩
      case measure => simp [intOf]; omega
    · obtain rfl : k = 8 := by omega
      have e : N = (x : Int) := by rw [X.out]; exact hN
      subst e
      clear hN
      go_wp2
      go_ret2
      exact ⟨rfl, hbel⟩

/-- the texts of edges, and of numbers -/
def tNan : ByteArray := ⟨#[110, 97, 110]⟩
def edg (x : Nat) : Bool := isN x || (decide (place x = -9218868437227405313) || decide (place x = 9218868437227405312))
def PForm (s : ByteArray) : Prop := s = ⟨#[110, 97, 110]⟩ ∨ s = ⟨#[45, 105, 110, 102]⟩ ∨ s = ⟨#[105, 110, 102]⟩ ∨ (s.size = 16 ∧ UnForm s ∧ edg (xv s) = false)
def pv (s : ByteArray) : Nat := if s.data.toList = [110, 97, 110] then 9221120237041090560 else if s.data.toList = [45, 105, 110, 102] then 18442240474082181120 else if s.data.toList = [105, 110, 102] then 9218868437227405312 else xv s
def PPost (s : ByteArray) (w : World) (e : Ending) (w' : World) : Prop :=
  ((PForm s ∧ e = .returned (.tuple #[.float .f64 (pv s), .int .i64 0])) ∨ (¬ PForm s ∧ e = .returned (.tuple #[.float .f64 0, .int .i64 3]))) ∧ Below w.heap.size w w'
theorem ba_list {s : ByteArray} {l : List UInt8} (h : s.data.toList = l) : s = ⟨l.toArray⟩ := by
  cases s with | mk d => congr 1; apply Array.toList_inj.1; rw [h]
theorem ba_beq (s : ByteArray) (l : List UInt8) (h : ¬ s.data.toList = l) : (s.toList == l) = false := by
  rw [ByteArray.toList_eq, beq_eq_false_iff_ne]; exact h
theorem ba_ne {s : ByteArray} {l : List UInt8} (h : ¬ s.data.toList = l) : s ≠ ⟨l.toArray⟩ := fun e => h (by rw [e])

set_option maxHeartbeats 800000 in
theorem parse_any (s : ByteArray) (w : World) (hs : s.size ≤ 1099511627776) : Calls Try.prog 22 #[.string s] w (PPost s w) := by
  by_cases h1 : s.data.toList = [110, 97, 110]
  · have e : s = ⟨#[110, 97, 110]⟩ := ba_list h1
    have v : pv s = 9221120237041090560 := by unfold pv; rw [if_pos h1]
    have f : Hid (PForm s) := Lib.hid (.inl e)
    have N := nan_any w
    unfold PPost
    rw [v]
    clear v h1 hs
    subst e
    go_enter Try.func22, Try.ntmps22
    go_wp2_with fail
    refine N.mono ?_
    rintro e w' ⟨rfl, rfl⟩
    clear N
    go_wp2
    all_goals go_ret2
    all_goals exact ⟨.inl ⟨f.out, rfl⟩, Below.refl _ _⟩
  by_cases h2 : s.data.toList = [45, 105, 110, 102]
  · have e : s = ⟨#[45, 105, 110, 102]⟩ := ba_list h2
    have v : pv s = 18442240474082181120 := by unfold pv; rw [if_neg h1, if_pos h2]
    have f : Hid (PForm s) := Lib.hid (.inr (.inl e))
    have N := inf_any (-1) w
    rw [if_neg (by decide)] at N
    unfold PPost
    rw [v]
    clear v h1 h2 hs
    subst e
    go_enter Try.func22, Try.ntmps22
    go_wp2_with fail
    refine N.mono ?_
    rintro e w' ⟨rfl, rfl⟩
    clear N
    go_wp2
    all_goals go_ret2
    all_goals exact ⟨.inl ⟨f.out, rfl⟩, Below.refl _ _⟩
  by_cases h3 : s.data.toList = [105, 110, 102]
  · have e : s = ⟨#[105, 110, 102]⟩ := ba_list h3
    have v : pv s = 9218868437227405312 := by unfold pv; rw [if_neg h1, if_neg h2, if_pos h3]
    have f : Hid (PForm s) := Lib.hid (.inr (.inr (.inl e)))
    have N := inf_any 1 w
    rw [if_pos (by decide)] at N
    unfold PPost
    rw [v]
    clear v h1 h2 h3 hs
    subst e
    go_enter Try.func22, Try.ntmps22
    go_wp2_with fail
    refine N.mono ?_
    rintro e w' ⟨rfl, rfl⟩
    clear N
    go_wp2
    all_goals go_ret2
    all_goals exact ⟨.inl ⟨f.out, rfl⟩, Below.refl _ _⟩
  have b1 := ba_beq s _ h1
  have b2 := ba_beq s _ h2
  have b3 := ba_beq s _ h3
  have v : pv s = xv s := by unfold pv; rw [if_neg h1, if_neg h2, if_neg h3]
  have f : Hid (PForm s ↔ (s.size = 16 ∧ UnForm s ∧ edg (xv s) = false)) := Lib.hid (by
    unfold PForm
    exact ⟨fun h => h.elim (fun e => absurd e (ba_ne h1)) (fun h => h.elim (fun e => absurd e (ba_ne h2)) (fun h => h.elim (fun e => absurd e (ba_ne h3)) id)), fun h => .inr (.inr (.inr h))⟩)
  unfold PPost
  rw [v]
  clear v h1 h2 h3
  by_cases h4 : s.size = 16 ∧ UnForm s
  · have u := undigits_yes s w h4.1 h4.2
    have hx := xv_lt s
    have E : edg (xv s) = (isN (xv s) || (decide (place (xv s) = -9218868437227405313) || decide (place (xv s) = 9218868437227405312))) := rfl
    have F : Hid (edg (xv s) = false ↔ PForm s) := Lib.hid ⟨fun h => f.out.2 ⟨h4.1, h4.2, h⟩, fun h => (f.out.1 h).2.2⟩
    have I1 := fun w => isNaN_any (xv s) w hx
    have I2 := fun w => isInf_zero (xv s) w hx
    clear f h4
    generalize xv s = x at *
    generalize (decide (place x = -9218868437227405313) || decide (place x = 9218868437227405312)) = q at *
    cases c1 : isN x with
    | true =>
      rw [c1] at E I1
      have nf : Hid (¬ PForm s) := Lib.hid (fun h => by have := F.out.2 h; rw [E] at this; cases this)
      clear E F c1
      go_enter Try.func22, Try.ntmps22
      go_wp2_with fail
      refine u.mono ?_
      rintro e w1 ⟨rfl, hb⟩
      clear u
      go_wp2_with fail
      refine (I1 w1).mono ?_
      rintro e w' ⟨rfl, rfl⟩
      clear I1 I2
      go_wp2
      all_goals go_ret2
      all_goals exact ⟨.inr ⟨nf.out, rfl⟩, hb⟩
    | false =>
      rw [c1] at E I1
      cases q with
      | true =>
        have nf : Hid (¬ PForm s) := Lib.hid (fun h => by have := F.out.2 h; rw [E] at this; cases this)
        clear E F c1
        go_enter Try.func22, Try.ntmps22
        go_wp2_with fail
        refine u.mono ?_
        rintro e w1 ⟨rfl, hb⟩
        clear u
        go_wp2_with fail
        refine (I1 w1).mono ?_
        rintro e w' ⟨rfl, rfl⟩
        go_wp2_with fail
        refine (I2 w1).mono ?_
        rintro e w' ⟨rfl, rfl⟩
        clear I1 I2
        go_wp2
        all_goals go_ret2
        all_goals exact ⟨.inr ⟨nf.out, rfl⟩, hb⟩
      | false =>
        have nf : Hid (PForm s) := Lib.hid (F.out.1 E)
        clear E F c1
        go_enter Try.func22, Try.ntmps22
        go_wp2_with fail
        refine u.mono ?_
        rintro e w1 ⟨rfl, hb⟩
        clear u
        go_wp2_with fail
        refine (I1 w1).mono ?_
        rintro e w' ⟨rfl, rfl⟩
        go_wp2_with fail
        refine (I2 w1).mono ?_
        rintro e w' ⟨rfl, rfl⟩
        clear I1 I2
        go_wp2
        all_goals go_ret2
        all_goals exact ⟨.inl ⟨nf.out, rfl⟩, hb⟩
  · have nf : Hid (¬ PForm s) := Lib.hid (fun h => h4 ⟨(f.out.1 h).1, (f.out.1 h).2.1⟩)
    have u : Calls Try.prog 41 #[.string s] w fun e w' => e = .returned (.tuple #[.float .f64 0, .bool false]) ∧ Below w.heap.size w w' := by
      by_cases h5 : s.size = 16
      · exact undigits_no s w h5 (fun h => h4 ⟨h5, h⟩)
      · exact undigits_bad s w hs h5
    clear f h4
    go_enter Try.func22, Try.ntmps22
    go_wp2_with fail
    refine u.mono ?_
    rintro e w1 ⟨rfl, hb⟩
    clear u
    go_wp2
    all_goals go_ret2
    all_goals exact ⟨.inr ⟨nf.out, rfl⟩, hb⟩

theorem edg_cls (x : Nat) (hx : x < 18446744073709551616) : edg x = true ↔ (cls (place x) = 1 ∨ cls (place x) = 2 ∨ cls (place x) = 7) := by
  have := cls_of _ (place_range x hx)
  unfold edg isN
  simp only [Bool.or_eq_true, decide_eq_true_eq]
  omega
theorem prt_num (x : Nat) (hx : x < 18446744073709551616) (h : edg x = false) : prt x = ⟨(hexL (bl 8 x)).toArray⟩ := by
  have h' : ¬ (cls (place x) = 1 ∨ cls (place x) = 2 ∨ cls (place x) = 7) := fun c => by rw [(edg_cls x hx).2 c] at h; cases h
  unfold prt
  rw [if_neg (by omega), if_neg (by omega), if_neg (by omega)]
theorem prt_edge (x : Nat) (hx : x < 18446744073709551616) (h : edg x = true) : (prt x).size ≤ 4 := by
  have h' := (edg_cls x hx).1 h
  unfold prt
  (repeat' split) <;> first | decide | omega
theorem hex_xv (s : ByteArray) (h : s.size = 16) (hf : UnForm s) : (⟨(hexL (bl 8 (xv s))).toArray⟩ : ByteArray) = s := by
  rw [bl_xv]
  have := hexL_back s hf
  rw [show s.size / 2 = 8 by omega] at this
  rw [this]
theorem prt_xv (s : ByteArray) (h : s.size = 16) (hf : UnForm s) (e : edg (xv s) = false) : prt (xv s) = s := by
  rw [prt_num _ (xv_lt s) e, hex_xv s h hf]

theorem runhex_yes (s : ByteArray) (w : World) (hs : s.size ≤ 1099511627776) (h : UnForm s) :
    Calls Try.prog 42 #[.string s] w fun e w' => e = .returned (.tuple #[.string ⟨(unTo s (s.size / 2)).toArray⟩, .int .i64 0]) ∧ Below w.heap.size w w' :=
  (runhex_any s w hs).mono fun e w' ⟨he, hw⟩ => ⟨he.elim (fun x => x.2) (fun x => absurd h x.1), hw⟩
theorem runhex_no (s : ByteArray) (w : World) (hs : s.size ≤ 1099511627776) (h : ¬ UnForm s) :
    Calls Try.prog 42 #[.string s] w fun e w' => e = .returned (.tuple #[.string ⟨#[]⟩, .int .i64 3]) ∧ Below w.heap.size w w' :=
  (runhex_any s w hs).mono fun e w' ⟨he, hw⟩ => ⟨he.elim (fun x => absurd x.1 h) (fun x => x.2), hw⟩
set_option maxHeartbeats 1600000 in
theorem refparse_num (s : ByteArray) (w : World) (h : s.size = 16) (hf : UnForm s) (b1 : (s.toList == [110, 97, 110]) = false) (b2 : (s.toList == [45, 105, 110, 102]) = false) (b3 : (s.toList == [105, 110, 102]) = false) :
    Calls Try.prog 23 #[.string s] w fun e w' => ((edg (xv s) = false ∧ e = .returned (.tuple #[.float .f64 (xv s), .int .i64 0])) ∨ (edg (xv s) = true ∧ e = .returned (.tuple #[.float .f64 0, .int .i64 3]))) ∧ Below w.heap.size w w' := by
  have hx := xv_lt s
  have u := runhex_yes s w (by omega) hf
  rw [show s.size / 2 = 8 by omega] at u
  have hz : (⟨(unTo s 8).toArray⟩ : ByteArray).size = 8 := by rw [size_mk, unTo_len]
  have X : Hid ((xv s : Int) = num (bt ⟨(unTo s 8).toArray⟩) 8) := Lib.hid (by have := num8 ⟨(unTo s 8).toArray⟩ 8 (by omega); unfold xv; omega)
  have P := fun w => refprint_any (xv s) w hx
  have PE : Hid (edg (xv s) = false → ((prt (xv s)).toList == s.toList) = true) := Lib.hid (fun e => by rw [prt_xv s h hf e]; simp)
  have PN : Hid (edg (xv s) = true → ((prt (xv s)).toList == s.toList) = false) := Lib.hid (fun e => by
    rw [beq_eq_false_iff_ne, ByteArray.toList_eq, ByteArray.toList_eq]
    intro c
    have := congrArg List.length c
    rw [get_len, get_len, h] at this
    have := prt_edge _ hx e
    omega)
  have r2 := run_from
  have zz : ((8 : Int) != 8) = false := by decide
  generalize (⟨(unTo s 8).toArray⟩ : ByteArray) = t at *
  generalize xv s = x at *
  generalize prt x = T at *
  clear hf h
  go_enter Try.func23, Try.ntmps23
  go_wp2_with fail
  refine u.mono ?_
  rintro e w1 ⟨rfl, hbel⟩
  clear u
  go_wp2
  go_loopw [6, 7] (fun b i wr => ∃ (k : Nat) (N : Int), k ≤ 8 ∧ b = .int .u64 N ∧ i = .int .i64 k ∧ N = num (bt t) k ∧ Below w.heap.size w wr) (fun _ i _ => 8 - (intOf i).toNat)
  case atStart => exact ⟨0, 0, by omega, rfl, rfl, rfl, hbel⟩
  case round =>
    obtain ⟨k, N, hk, rfl, rfl, hN, hbel⟩ := hrel
    have bd := num8 t k hk
    rw [← hN] at bd
    have HN := Lib.hid hN
    have hg := get_bt t
    obtain ⟨n0, n1⟩ := bd
    by_cases hlt : k < 8
    · have g0 := bt_nonneg t k
      have g1 := bt_le t k
      have n2 := num7 t k hlt
      rw [← hN] at n2
      clear hN
      have o := or256 N (bt t k) n0 n2 g0 g1
      go_wp2
      go_roundw
      case rel => exact ⟨k + 1, _, by omega, rfl, by go_num, by rw [num, ← HN.out], hbel⟩
      case measure => simp [intOf]; omega
    · obtain rfl : k = 8 := by omega
      have e : N = (x : Int) := by rw [X.out]; exact hN
      subst e
      clear hN
      go_wp2_with fail
      refine (P _).mono ?_
      rintro e w2 ⟨rfl, hb2⟩
      have hb3 := hbel.trans (hb2.mono hbel.size)
      clear hb2 P
      cases c : edg x with
      | true =>
        have q := PN.out c
        have C := Lib.hid c
        clear c
        go_wp2
        go_ret2
        exact ⟨.inr ⟨C.out, rfl⟩, hb3⟩
      | false =>
        have q := PE.out c
        have C := Lib.hid c
        clear c
        go_wp2
        go_ret2
        exact ⟨.inl ⟨C.out, rfl⟩, hb3⟩
theorem refparse_no (s : ByteArray) (w : World) (hs : s.size ≤ 1099511627776) (h : ¬ (s.size = 16 ∧ UnForm s)) (b1 : (s.toList == [110, 97, 110]) = false) (b2 : (s.toList == [45, 105, 110, 102]) = false) (b3 : (s.toList == [105, 110, 102]) = false) :
    Calls Try.prog 23 #[.string s] w fun e w' => e = .returned (.tuple #[.float .f64 0, .int .i64 3]) ∧ Below w.heap.size w w' := by
  by_cases hf : UnForm s
  · have hn : s.size / 2 ≠ 8 := fun e => h ⟨by have := hf.1; omega, hf⟩
    have u := runhex_yes s w hs hf
    have hz : (⟨(unTo s (s.size / 2)).toArray⟩ : ByteArray).size = s.size / 2 := by rw [size_mk, unTo_len]
    generalize (⟨(unTo s (s.size / 2)).toArray⟩ : ByteArray) = t at *
    have hz2 : ((t.size : Int) != 8) = true := by rw [bne_iff_ne]; omega
    clear hf h hn hz
    go_enter Try.func23, Try.ntmps23
    go_wp2_with fail
    refine u.mono ?_
    rintro e w1 ⟨rfl, hbel⟩
    clear u
    go_wp2
    all_goals go_ret2
    all_goals exact ⟨rfl, hbel⟩
  · have u := runhex_no s w hs hf
    clear hf h
    go_enter Try.func23, Try.ntmps23
    go_wp2_with fail
    refine u.mono ?_
    rintro e w1 ⟨rfl, hbel⟩
    clear u
    go_wp2
    all_goals go_ret2
    all_goals exact ⟨rfl, hbel⟩
theorem refparse_any (s : ByteArray) (w : World) (hs : s.size ≤ 1099511627776) : Calls Try.prog 23 #[.string s] w (PPost s w) := by
  by_cases h1 : s.data.toList = [110, 97, 110]
  · have e : s = ⟨#[110, 97, 110]⟩ := ba_list h1
    have v : pv s = 9221120237041090560 := by unfold pv; rw [if_pos h1]
    have f : Hid (PForm s) := Lib.hid (.inl e)
    have N := refnan_any w
    unfold PPost
    rw [v]
    clear v h1 hs
    subst e
    go_enter Try.func23, Try.ntmps23
    go_wp2_with fail
    refine N.mono ?_
    rintro e w' ⟨rfl, rfl⟩
    clear N
    go_wp2
    all_goals go_ret2
    all_goals exact ⟨.inl ⟨f.out, rfl⟩, Below.refl _ _⟩
  by_cases h2 : s.data.toList = [45, 105, 110, 102]
  · have e : s = ⟨#[45, 105, 110, 102]⟩ := ba_list h2
    have v : pv s = 18442240474082181120 := by unfold pv; rw [if_neg h1, if_pos h2]
    have f : Hid (PForm s) := Lib.hid (.inr (.inl e))
    have N := refratio_any (-1) 0 w (by decide) (by decide) (by decide) (by decide)
    rw [show rat (-1) 0 = 18442240474082181120 by decide +kernel] at N
    unfold PPost
    rw [v]
    clear v h1 h2 hs
    subst e
    go_enter Try.func23, Try.ntmps23
    go_wp2_with fail
    refine N.mono ?_
    rintro e w' ⟨rfl, rfl⟩
    clear N
    go_wp2
    all_goals go_ret2
    all_goals exact ⟨.inl ⟨f.out, rfl⟩, Below.refl _ _⟩
  by_cases h3 : s.data.toList = [105, 110, 102]
  · have e : s = ⟨#[105, 110, 102]⟩ := ba_list h3
    have v : pv s = 9218868437227405312 := by unfold pv; rw [if_neg h1, if_neg h2, if_pos h3]
    have f : Hid (PForm s) := Lib.hid (.inr (.inr (.inl e)))
    have N := refratio_any 1 0 w (by decide) (by decide) (by decide) (by decide)
    rw [show rat 1 0 = 9218868437227405312 by decide +kernel] at N
    unfold PPost
    rw [v]
    clear v h1 h2 h3 hs
    subst e
    go_enter Try.func23, Try.ntmps23
    go_wp2_with fail
    refine N.mono ?_
    rintro e w' ⟨rfl, rfl⟩
    clear N
    go_wp2
    all_goals go_ret2
    all_goals exact ⟨.inl ⟨f.out, rfl⟩, Below.refl _ _⟩
  have b1 := ba_beq s _ h1
  have b2 := ba_beq s _ h2
  have b3 := ba_beq s _ h3
  have v : pv s = xv s := by unfold pv; rw [if_neg h1, if_neg h2, if_neg h3]
  have f : PForm s ↔ (s.size = 16 ∧ UnForm s ∧ edg (xv s) = false) := by
    unfold PForm
    exact ⟨fun h => h.elim (fun e => absurd e (ba_ne h1)) (fun h => h.elim (fun e => absurd e (ba_ne h2)) (fun h => h.elim (fun e => absurd e (ba_ne h3)) id)), fun h => .inr (.inr (.inr h))⟩
  unfold PPost
  rw [v]
  by_cases h4 : s.size = 16 ∧ UnForm s
  · refine (refparse_num s w h4.1 h4.2 b1 b2 b3).mono ?_
    rintro e w' ⟨q | q, hb⟩
    · exact ⟨.inl ⟨f.2 ⟨h4.1, h4.2, q.1⟩, q.2⟩, hb⟩
    · exact ⟨.inr ⟨fun h => (by have := (f.1 h).2.2; rw [q.1] at this; cases this), q.2⟩, hb⟩
  · refine (refparse_no s w hs h4 b1 b2 b3).mono ?_
    rintro e w' ⟨q, hb⟩
    exact ⟨.inr ⟨fun h => h4 ⟨(f.1 h).1, (f.1 h).2.1⟩, q⟩, hb⟩
end Go.Proofs.Ytmfhokbognlhbaa.Rl
