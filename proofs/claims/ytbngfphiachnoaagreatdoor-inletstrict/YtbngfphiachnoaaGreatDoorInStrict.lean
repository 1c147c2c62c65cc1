/-
  The walk of InletStrict.
-/
import Derived.Test.YtbngfphiachnoaaGreatDoorInAwake
import Derived.Test.YtbngfphiachnoaaGreatDoorInText
import Derived.Test.YtbngfphiachnoaaGreatDoorFiGood
import Derived.Test.YtbngfphiachnoaaGreatDoorFiRefG
namespace Go.Proofs.YtbngfphiachnoaaGreatDoor.In
open Go.RowKit Go.PlainAid
open Hx Fi Ch
set_option linter.unusedVariables false
set_option maxRecDepth 20000
set_option linter.unusedSimpArgs false

theorem one_fds (w : World) (f : Fi.Fd) : FdsAt (w.alloc (.cells (fdV f) 49)) (.slice (some ⟨w.heap.size, 0, none⟩) 1 1) [f] := by
  refine ⟨_, 1, rfl, Nat.le_refl _, fun j x hj => ⟨_, rfl, by simp, fun i c hi => ?_⟩⟩
  have hj0 : j = 0 := by
    have := (List.getElem?_eq_some_iff.1 hj).1
    simp at this; exact this
  subst hj0
  obtain rfl : f = x := by simpa using hj
  exact new_fd w f i c hi
/-- what may stay in a head beside what makes it wrong -/
def Kx (x : Fi.Fd) : Prop := Fi.Good x ∧ getN (ls nHost) [x] = 0 ∧ getN (ls nCL) [x] = 0 ∧ getN (ls nTE) [x] = 0 ∧ x.n.size + x.v.size < 100
/-- where the loop stands: what was typed so far -/
structure SInv (w wr : World) (n k : Nat) (S : ByteArray) : Prop where
  hk : k ≤ n
  bel : Below w.heap.size w wr
  is : ∃ kx : List Fi.Fd, ls S = rootL ++ 13 :: 10 :: linesF kx ∧ kx.length ≤ k ∧ ∀ y ∈ kx, Kx y
theorem lines_len : ∀ kx : List Fi.Fd, (∀ y ∈ kx, Kx y) → (linesF kx).length ≤ 104 * kx.length
  | [], _ => by simp [linesF]
  | f :: l, h => by
    have ih := lines_len l fun y hy => h y (by simp [hy])
    have := (h f (by simp)).2.2.2.2
    simp only [linesF, printF, List.length_append, List.length_cons, List.length_nil, ls_len]
    omega
theorem SInv.size {w wr : World} {n k : Nat} {S : ByteArray} (h : SInv w wr n k S) (hn : n ≤ 20) : S.size ≤ 3000 := by
  obtain ⟨kx, h1, h2, h3⟩ := h.is
  have := lines_len kx h3
  have hl := congrArg List.length h1
  rw [ls_len, List.length_append, List.length_cons, List.length_cons] at hl
  have hr : rootL.length = 14 := rfl
  have := h.hk
  omega
/-! ### what is typed behind it -/
def ysF : Nat → List Fi.Fd
  | 0 => [⟨nHost, ⟨#[97]⟩⟩, ⟨nCL, ⟨#[48]⟩⟩, ⟨nCL, ⟨#[48]⟩⟩]
  | 1 => [⟨nHost, ⟨#[97]⟩⟩, ⟨nCL, ⟨#[53]⟩⟩, ⟨nTE, wChunked⟩]
  | 2 => [⟨nHost, ⟨#[97]⟩⟩, ⟨nHost, ⟨#[97]⟩⟩]
  | _ => []
theorem ys_good (m : Nat) : ∀ y ∈ ysF m, Fi.Good y := by
  have g1 : Fi.Good ⟨nHost, ⟨#[97]⟩⟩ := (good_iff _).1 (by decide +kernel)
  have g2 : Fi.Good ⟨nCL, ⟨#[48]⟩⟩ := (good_iff _).1 (by decide +kernel)
  have g3 : Fi.Good ⟨nCL, ⟨#[53]⟩⟩ := (good_iff _).1 (by decide +kernel)
  have g4 : Fi.Good ⟨nTE, wChunked⟩ := (good_iff _).1 (by decide +kernel)
  intro y hy
  match m with
  | 0 =>
    simp only [ysF, List.mem_cons, List.not_mem_nil, or_false] at hy
    rcases hy with rfl | rfl | rfl <;> assumption
  | 1 =>
    simp only [ysF, List.mem_cons, List.not_mem_nil, or_false] at hy
    rcases hy with rfl | rfl | rfl <;> assumption
  | 2 =>
    simp only [ysF, List.mem_cons, List.not_mem_nil, or_false] at hy
    rcases hy with rfl | rfl <;> assumption
  | m + 3 => simp [ysF] at hy
theorem ys_two (m : Nat) : getN (ls nHost) (ysF m) ≠ 1 ∨ (1 < getN (ls nTE) (ysF m) + getN (ls nCL) (ysF m)) := by
  match m with
  | 0 => exact .inr (by decide +kernel)
  | 1 => exact .inr (by decide +kernel)
  | 2 => exact .inl (by decide +kernel)
  | m + 3 => exact .inl (by show getN (ls nHost) [] ≠ 1; decide +kernel)
theorem ys_len (m : Nat) : (ysF m).length ≤ 3 ∧ (linesF (ysF m)).length ≤ 100 := by
  match m with
  | 0 => exact ⟨by decide, by decide +kernel⟩
  | 1 => exact ⟨by decide, by decide +kernel⟩
  | 2 => exact ⟨by decide, by decide +kernel⟩
  | m + 3 => exact ⟨by simp [ysF], by simp [ysF, linesF]⟩
/-- all that is typed is wrong -/
theorem strict_bad {kx : List Fi.Fd} (h : ∀ y ∈ kx, Kx y) (hl : kx.length ≤ 20) (m : Nat) (r : List UInt8) : rdF (rootL ++ 13 :: 10 :: linesF kx ++ linesF (ysF m) ++ [13, 10] ++ r) = .bad 400 := by
  have e : rootL ++ 13 :: 10 :: linesF kx ++ linesF (ysF m) ++ [13, 10] ++ r = headF rootL (kx ++ ysF m) ++ r := by
    unfold headF
    rw [linesF_append]
    simp
  have h1 := lines_len kx h
  have h2 := ys_len m
  have hr : rootL.length = 14 := rfl
  rw [e]
  refine rd_strict r (fun x hx => ⟨(h x hx).1, (h x hx).2.1, (h x hx).2.2.1, (h x hx).2.2.2.1⟩) (ys_good m) (by rw [List.length_append]; omega) ?_ (ys_two m)
  unfold headF
  rw [linesF_append]
  simp only [List.length_append, List.length_cons, List.length_nil]
  omega
set_option maxRecDepth 200000 in
set_option maxHeartbeats 40000000 in
theorem walkStrict {v : Value} (xs : List Fi.Fd) (what : Int) (w : World) (hv : FdsAt w v xs) (hl : xs.length ≤ 9223372036854775807) (ho : ∀ y ∈ xs, y.Ok) (hr : Fi.Reach xs) (w1 : (Lit.int .i64 what).wf = true) :
    Calls Tryz.prog 6 #[v, .int .i64 what] w fun e w' => e = .returned (.bool true) ∧ Below w.heap.size w w' := by
  obtain ⟨m1, m2⟩ : -9223372036854775808 ≤ what ∧ what ≤ 9223372036854775807 := int_bd w1
  clear w1
  obtain ⟨base, cap, rfl, _, _⟩ := hv.is
  have HV := Lib.hid hv
  have HR := Lib.hid hr
  clear hv hr ho
  obtain ⟨n, hn⟩ : ∃ n, n = xs.length := ⟨_, rfl⟩
  rw [← hn] at HV hl ⊢
  have HN := Lib.hid hn
  clear hn
  by_cases h20 : 20 < n
  · have g : (20 : Int) < (n : Int) := by omega
    go_enter Tryz.func6, Tryz.ntmps6
    go_wp2_with fail
    refine (awake_any _).mono ?_
    rintro e w1 ⟨rfl, F1⟩
    go_wp2
    go_ret
    exact ⟨rfl, F1⟩
  have g : ¬ (20 : Int) < (n : Int) := by omega
  go_enter Tryz.func6, Tryz.ntmps6
  go_wp2_with fail
  refine (awake_any _).mono ?_
  rintro e wa ⟨rfl, ba⟩
  have I0 : Hid (SInv w wa n 0 ⟨#[71, 69, 84, 32, 47, 32, 72, 84, 84, 80, 47, 49, 46, 49, 13, 10]⟩) := Lib.hid ⟨Nat.zero_le _, ba, [], by decide +kernel, Nat.le_refl _, by simp⟩
  clear ba
  go_wp2_with fail
  go_loopw [5, 6] (fun s i wr => ∃ (S : ByteArray) (k : Nat), s = .string S ∧ i = .int .i64 k ∧ SInv w wr n k S) (fun _ i _ => n - (intOf i).toNat)
  case atStart => exact ⟨_, 0, rfl, rfl, I0.out⟩
  case round =>
    clear I0
    obtain ⟨S, k, rfl, rfl, J⟩ := hrel
    have hSz := J.size (by omega)
    by_cases hkn : k < n
    · have l1 : (k : Int) < (n : Int) := by omega
      obtain ⟨x, hx⟩ : ∃ x, xs[k]? = some x := ⟨xs[k]'(by have := HN.out; omega), List.getElem?_eq_getElem _⟩
      have hmem := List.mem_of_getElem? hx
      have hrx : Fi.Reach [x] := fun y hy => by rw [List.mem_singleton] at hy; subst hy; exact HR.out y hmem
      have xz := HR.out x hmem
      obtain ⟨a, rfl, ha, L1, _, _⟩ := (HV.out.below J.bel).loads hx
      have bel := J.bel
      have ldx : ∀ u, Below w.heap.size w u → a.block < u.heap.size ∧ Loads Tryz.prog u 49 (a.add (k * 2)) (fdV x) := fun u hb => by
        obtain ⟨a', ea, hb', L', _⟩ := (HV.out.below hb).loads hx
        obtain rfl := Option.some.inj ea
        exact ⟨hb', L'⟩
      have cel : ∀ u, Below w.heap.size w u → u.cell? (a.add (k * 2)) = some (.string x.n) ∧ u.cell? { (a.add (k * 2)) with off := (a.add (k * 2)).off + 1, spot := none } = some (.string x.v) := fun u hb => by
        obtain ⟨a', ea, hb', L', c0, c1⟩ := (HV.out.below hb).loads hx
        obtain rfl := Option.some.inj ea
        exact ⟨c0, by rw [add_next]; exact c1⟩
      have gt : ∀ (nm : ByteArray) (hz : nm.size ≤ 140737488355328) (u : World), Below w.heap.size w u → Calls Tryz.prog 18 #[.slice (some ⟨u.heap.size, 0, none⟩) 1 1, .string nm] (u.alloc (.cells (fdV x) 49)) fun e w' => e = .returned (.tuple #[.string (getS (ls nm) [x]), .int .i64 (getN (ls nm) [x])]) ∧ Below w.heap.size w w' := fun nm hz u hb =>
        (get_any nm (one_fds u x) (by simp) hz hrx).mono fun e w' ⟨p, q⟩ => ⟨p, (hb.alloc hb.size _).trans (q.mono (by simp; have := hb.size; omega))⟩
      have q1 := gt nHost (by decide)
      have q2 := gt nCL (by decide)
      have q3 := gt nTE (by decide)
      have b1 := valsF_le (ls nHost) [x]
      have b2 := valsF_le (ls nCL) [x]
      have b3 := valsF_le (ls nTE) [x]
      obtain ⟨hn, ehn⟩ : ∃ hn, getN (ls nHost) [x] = hn := ⟨_, rfl⟩
      obtain ⟨cn, ecn⟩ : ∃ cn, getN (ls nCL) [x] = cn := ⟨_, rfl⟩
      obtain ⟨tn, etn⟩ : ∃ tn, getN (ls nTE) [x] = tn := ⟨_, rfl⟩
      have b1 : hn ≤ 1 := by rw [← ehn]; exact b1
      have b2 : cn ≤ 1 := by rw [← ecn]; exact b2
      have b3 : tn ≤ 1 := by rw [← etn]; exact b3
      rw [ehn] at q1
      rw [ecn] at q2
      rw [etn] at q3
      have LDX := Lib.hid ldx
      have CEL := Lib.hid cel
      have HX := Lib.hid hx
      have HMEM := Lib.hid hmem
      have XZ := Lib.hid xz
      have HRX := Lib.hid hrx
      have ECN := Lib.hid (And.intro ehn (And.intro ecn etn))
      have HJ := Lib.hid J
      clear gt ldx cel hx hmem xz hrx J ehn ecn etn
      by_cases hsum : hn + cn + tn = 0
      · obtain rfl : hn = 0 := by omega
        obtain rfl : cn = 0 := by omega
        obtain rfl : tn = 0 := by omega
        have G1 := Lib.hid q1
        have G2 := Lib.hid q2
        have G3 := Lib.hid q3
        have gd := fun u => good_any x u XZ.out.1 XZ.out.2
        clear q1 q2 q3 b1 b2 b3 hsum
        unfold nHost at G1
        unfold nCL at G2
        unfold nTE at G3
        cases hgd : goodF x with
        | false =>
          rw [hgd] at gd
          have HN2 := Lib.hid (show SInv w wr n k S → ∀ u, Below w.heap.size w u → SInv w u n (k + 1) S from fun J u hb => ⟨by omega, hb, by obtain ⟨kx, a, b, c⟩ := J.is; exact ⟨kx, a, by omega, c⟩⟩)
          clear hgd
          go_wp2_with (first | refine wpl_load L1 rfl rfl rfl ?_ | refine wpl_build (fdV_size x) rfl rfl rfl ?_)
          refine (G1.out wr bel).mono ?_
          rintro e w1 ⟨rfl, B1⟩
          clear L1
          obtain ⟨_, L2⟩ := LDX.out w1 B1
          go_wp2_with (first | refine wpl_load L2 rfl rfl rfl ?_ | refine wpl_build (fdV_size x) rfl rfl rfl ?_)
          refine (G2.out w1 B1).mono ?_
          rintro e w2 ⟨rfl, B2⟩
          clear L2 B1
          obtain ⟨_, L3⟩ := LDX.out w2 B2
          go_wp2_with (first | refine wpl_load L3 rfl rfl rfl ?_ | refine wpl_build (fdV_size x) rfl rfl rfl ?_)
          refine (G3.out w2 B2).mono ?_
          rintro e w3 ⟨rfl, B3⟩
          clear L3 B2
          go_upto_region 12 with (fail)
          refine wp_region_held (S := fun u => Below w.heap.size w u) (by kernel_rfl) ?_
          change wpAnyH _ _ _ _ _ _ _ _ w3.drew
          have j0 : Below w.heap.size w w3.drew := B3.drew
          have LD := Lib.hid (fun u (hb : Below w.heap.size w u) => (LDX.out u hb).2)
          have C0 := Lib.hid (fun u (hb : Below w.heap.size w u) => (CEL.out u hb).1)
          have C1 := Lib.hid (fun u (hb : Below w.heap.size w u) => (CEL.out u hb).2)
          generalize w3.drew = w4 at j0 ⊢
          clear B3
          refine held_take 0 (.int .i64 0) rfl (by kernel_rfl) (by kernel_rfl) (by kernel_rfl) (fun _ _ _ h => h) (Or.inl ⟨by rfl, fun x j => by go_simp⟩) j0 (fun K hK => ?_)
          go_simp
          refine hK _ _ ?_
          clear hK K
          refine held_take 1 (.int .i64 0) rfl (by kernel_rfl) (by kernel_rfl) (by kernel_rfl) (fun _ _ _ h => h) (Or.inl ⟨by rfl, fun x j => by go_simp⟩) j0 (fun K hK => ?_)
          go_simp
          refine hK _ _ ?_
          clear hK K
          refine held_take 2 (.int .i64 0) rfl (by kernel_rfl) (by kernel_rfl) (by kernel_rfl) (fun _ _ _ h => h) (Or.inl ⟨by rfl, fun x j => by go_simp <;> rfl⟩) j0 (fun K hK => ?_)
          go_simp
          refine hK _ _ ?_
          clear hK K
          refine held_take 3 (.int .i64 0) rfl (by kernel_rfl) (by kernel_rfl) (by kernel_rfl) (fun _ _ _ h => h) (Or.inl ⟨by rfl, fun x j => by go_simp⟩) j0 (fun K hK => ?_)
          go_simp
          refine hK _ _ ?_
          clear hK K
          refine held_take 4 (.int .i64 0) rfl (by kernel_rfl) (by kernel_rfl) (by kernel_rfl) (fun _ _ _ h => h) (Or.inl ⟨by rfl, fun x j => by go_simp <;> rfl⟩) j0 (fun K hK => ?_)
          go_simp
          refine hK _ _ ?_
          clear hK K
          refine held_take 5 (.bool true) rfl (by kernel_rfl) (by kernel_rfl) (by kernel_rfl) (fun _ _ _ h => h) (Or.inl ⟨by rfl, fun x j => by go_simp⟩) j0 (fun K hK => ?_)
          go_simp
          refine hK _ _ ?_
          clear hK K
          refine held_take 6 (.bool true) rfl (by kernel_rfl) (by kernel_rfl) (by kernel_rfl) (fun _ _ _ h => h) (Or.inl ⟨by rfl, fun x j => by go_simp⟩) j0 (fun K hK => ?_)
          go_simp
          refine hK _ _ ?_
          clear hK K
          refine held_take 7 (.slice (some a) n cap) rfl (by kernel_rfl) (by kernel_rfl) (by kernel_rfl) (fun _ _ _ h => h) (Or.inl ⟨by rfl, fun x j => by go_simp⟩) j0 (fun K hK => ?_)
          go_simp
          refine hK _ _ ?_
          clear hK K
          refine held_take 8 (.int .i64 (k : Int)) rfl (by kernel_rfl) (by kernel_rfl) (by kernel_rfl) (fun _ _ _ h => h) (Or.inl ⟨by rfl, fun x j => by go_simp⟩) j0 (fun K hK => ?_)
          go_simp
          refine hK _ _ ?_
          clear hK K
          refine held_take 9 (.pointer (some (a.add (k * 2)))) rfl (by kernel_rfl) (by kernel_rfl) (by kernel_rfl) (fun _ _ _ h => h) (Or.inl ⟨by rfl, fun x j => by go_simp⟩) j0 (fun K hK => ?_)
          go_simp
          refine hK _ _ ?_
          clear hK K
          refine held_take 10 (.agg (fdV x)) rfl (by kernel_rfl) (by kernel_rfl) (by kernel_rfl) (fun _ _ _ h => h) (yields_load LD.out rfl rfl rfl) j0 (fun K hK => ?_)
          go_simp
          refine hK _ _ ?_
          clear hK K
          refine held_one 11 (by kernel_rfl) (fun K hK => wpOp_in rfl rfl ?_)
          go_simp
          refine (gd _).mono ?_
          rintro e u1 ⟨rfl, F11⟩
          have j1 := j0.trans (F11.mono j0.size)
          refine hK _ _ j1 ?_
          clear gd F11 j0
          clear hK K
          refine held_take 12 (.bool false) rfl (by kernel_rfl) (by kernel_rfl) (by kernel_rfl) (fun _ _ _ h => h) (Or.inl ⟨by rfl, fun x j => by go_simp⟩) j1 (fun K hK => ?_)
          go_simp
          refine hK _ _ ?_
          clear hK K
          refine held_take 13 (.bool false) rfl (by kernel_rfl) (by kernel_rfl) (by kernel_rfl) (fun _ _ _ h => h) (Or.inl ⟨by rfl, fun x j => by go_simp⟩) j1 (fun K hK => ?_)
          go_simp
          refine hK _ _ ?_
          clear hK K
          refine held_take 14 (undef) rfl (by kernel_rfl) (by kernel_rfl) (by kernel_rfl) (fun _ _ _ h => h) (Or.inr ⟨by rfl, rfl⟩) j1 (fun K hK => ?_)
          go_simp
          refine hK _ _ ?_
          clear hK K
          refine held_take 15 (undef) rfl (by kernel_rfl) (by kernel_rfl) (by kernel_rfl) (fun _ _ _ h => h) (Or.inr ⟨by rfl, rfl⟩) j1 (fun K hK => ?_)
          go_simp
          refine hK _ _ ?_
          clear hK K
          refine held_take 16 (undef) rfl (by kernel_rfl) (by kernel_rfl) (by kernel_rfl) (fun _ _ _ h => h) (Or.inr ⟨by rfl, rfl⟩) j1 (fun K hK => ?_)
          go_simp
          refine hK _ _ ?_
          clear hK K
          refine held_take 17 (undef) rfl (by kernel_rfl) (by kernel_rfl) (by kernel_rfl) (fun _ _ _ h => h) (Or.inr ⟨by rfl, rfl⟩) j1 (fun K hK => ?_)
          go_simp
          refine hK _ _ ?_
          clear hK K
          refine held_take 18 (undef) rfl (by kernel_rfl) (by kernel_rfl) (by kernel_rfl) (fun _ _ _ h => h) (Or.inr ⟨by rfl, rfl⟩) j1 (fun K hK => ?_)
          go_simp
          refine hK _ _ ?_
          clear hK K
          refine held_take 19 (undef) rfl (by kernel_rfl) (by kernel_rfl) (by kernel_rfl) (fun _ _ _ h => h) (Or.inr ⟨by rfl, rfl⟩) j1 (fun K hK => ?_)
          go_simp
          refine hK _ _ ?_
          clear hK K
          refine held_take 20 (undef) rfl (by kernel_rfl) (by kernel_rfl) (by kernel_rfl) (fun _ _ _ h => h) (Or.inr ⟨by rfl, rfl⟩) j1 (fun K hK => ?_)
          go_simp
          refine hK _ _ ?_
          clear hK K
          refine held_take 21 (undef) rfl (by kernel_rfl) (by kernel_rfl) (by kernel_rfl) (fun _ _ _ h => h) (Or.inr ⟨by rfl, rfl⟩) j1 (fun K hK => ?_)
          go_simp
          refine hK _ _ ?_
          clear hK K
          refine held_take 22 (undef) rfl (by kernel_rfl) (by kernel_rfl) (by kernel_rfl) (fun _ _ _ h => h) (Or.inr ⟨by rfl, rfl⟩) j1 (fun K hK => ?_)
          go_simp
          refine hK _ _ ?_
          clear hK K
          refine held_take 23 (undef) rfl (by kernel_rfl) (by kernel_rfl) (by kernel_rfl) (fun _ _ _ h => h) (Or.inr ⟨by rfl, rfl⟩) j1 (fun K hK => ?_)
          go_simp
          refine hK _ _ ?_
          clear hK K
          refine held_take 24 (undef) rfl (by kernel_rfl) (by kernel_rfl) (by kernel_rfl) (fun _ _ _ h => h) (Or.inr ⟨by rfl, rfl⟩) j1 (fun K hK => ?_)
          go_simp
          refine hK _ _ ?_
          clear hK K
          refine held_take 25 (undef) rfl (by kernel_rfl) (by kernel_rfl) (by kernel_rfl) (fun _ _ _ h => h) (Or.inr ⟨by rfl, rfl⟩) j1 (fun K hK => ?_)
          go_simp
          refine hK _ _ ?_
          clear hK K
          refine held_take 26 (undef) rfl (by kernel_rfl) (by kernel_rfl) (by kernel_rfl) (fun _ _ _ h => h) (Or.inr ⟨by rfl, rfl⟩) j1 (fun K hK => ?_)
          go_simp
          refine hK _ _ ?_
          clear hK K
          refine held_take 27 (undef) rfl (by kernel_rfl) (by kernel_rfl) (by kernel_rfl) (fun _ _ _ h => h) (Or.inr ⟨by rfl, rfl⟩) j1 (fun K hK => ?_)
          go_simp
          refine hK _ _ ?_
          clear hK K
          refine held_take 28 (.bool false) rfl (by kernel_rfl) (by kernel_rfl) (by kernel_rfl) (fun _ _ _ h => h) (Or.inl ⟨by rfl, fun x j => by go_simp⟩) j1 (fun K hK => ?_)
          go_simp
          refine hK _ _ ?_
          clear hK K
          refine wpAnyH_done (by kernel_rfl) ?_ _
          have JE := j1
          clear j1
          go_wp2
          go_roundw
          case rel => exact ⟨S, k + 1, rfl, by go_num, HN2.out HJ.out _ JE⟩
          case measure => simp [intOf]; omega
        | true =>
          rw [hgd] at gd
          have HGD := Lib.hid hgd
          clear hgd
          have xs1 := XZ.out.1
          have xs2 := XZ.out.2
          have wk : IntKind.i64.wrap ((x.n.size : Int) + (x.v.size : Int)) = (x.n.size : Int) + (x.v.size : Int) := IntWalk.i64_in _ (by omega)
          by_cases h100 : x.n.size + x.v.size < 100
          · have g100 : (x.n.size : Int) + (x.v.size : Int) < 100 := by omega
            have pr := fun u => print_any x u XZ.out.1 XZ.out.2
            have hps : (tx (printF x)).size ≤ 102 := by
              rw [tx_size]
              simp only [printF, List.length_append, List.length_cons, List.length_nil, ls_len]
              omega
            have HN2 := Lib.hid (show ∀ u, Below w.heap.size w u → SInv w u n (k + 1) (S ++ tx (printF x) ++ ⟨#[13, 10]⟩) from fun u hb => ⟨by omega, hb, by
              obtain ⟨kx, a, b, c⟩ := HJ.out.is
              refine ⟨kx ++ [x], ?_, by rw [List.length_append]; simp; omega, fun y hy => ?_⟩
              · rw [ls_append, ls_append, ls_tx, a, linesF_append]
                simp [linesF, ls]
              · rcases List.mem_append.1 hy with z | z
                · exact c y z
                · rw [List.mem_singleton] at z
                  subst z
                  exact ⟨(good_iff _).1 HGD.out, ECN.out.1, ECN.out.2.1, ECN.out.2.2, h100⟩⟩)
            generalize tx (printF x) = X at *
            clear h100
            go_wp2_with (first | refine wpl_load L1 rfl rfl rfl ?_ | refine wpl_build (fdV_size x) rfl rfl rfl ?_)
            refine (G1.out wr bel).mono ?_
            rintro e w1 ⟨rfl, B1⟩
            clear L1
            obtain ⟨_, L2⟩ := LDX.out w1 B1
            go_wp2_with (first | refine wpl_load L2 rfl rfl rfl ?_ | refine wpl_build (fdV_size x) rfl rfl rfl ?_)
            refine (G2.out w1 B1).mono ?_
            rintro e w2 ⟨rfl, B2⟩
            clear L2 B1
            obtain ⟨_, L3⟩ := LDX.out w2 B2
            go_wp2_with (first | refine wpl_load L3 rfl rfl rfl ?_ | refine wpl_build (fdV_size x) rfl rfl rfl ?_)
            refine (G3.out w2 B2).mono ?_
            rintro e w3 ⟨rfl, B3⟩
            clear L3 B2
            go_upto_region 12 with (fail)
            refine wp_region_held (S := fun u => Below w.heap.size w u) (by kernel_rfl) ?_
            change wpAnyH _ _ _ _ _ _ _ _ w3.drew
            have j0 : Below w.heap.size w w3.drew := B3.drew
            have LD := Lib.hid (fun u (hb : Below w.heap.size w u) => (LDX.out u hb).2)
            have C0 := Lib.hid (fun u (hb : Below w.heap.size w u) => (CEL.out u hb).1)
            have C1 := Lib.hid (fun u (hb : Below w.heap.size w u) => (CEL.out u hb).2)
            generalize w3.drew = w4 at j0 ⊢
            clear B3
            refine held_take 0 (.int .i64 0) rfl (by kernel_rfl) (by kernel_rfl) (by kernel_rfl) (fun _ _ _ h => h) (Or.inl ⟨by rfl, fun x j => by go_simp⟩) j0 (fun K hK => ?_)
            go_simp
            refine hK _ _ ?_
            clear hK K
            refine held_take 1 (.int .i64 0) rfl (by kernel_rfl) (by kernel_rfl) (by kernel_rfl) (fun _ _ _ h => h) (Or.inl ⟨by rfl, fun x j => by go_simp⟩) j0 (fun K hK => ?_)
            go_simp
            refine hK _ _ ?_
            clear hK K
            refine held_take 2 (.int .i64 0) rfl (by kernel_rfl) (by kernel_rfl) (by kernel_rfl) (fun _ _ _ h => h) (Or.inl ⟨by rfl, fun x j => by go_simp <;> rfl⟩) j0 (fun K hK => ?_)
            go_simp
            refine hK _ _ ?_
            clear hK K
            refine held_take 3 (.int .i64 0) rfl (by kernel_rfl) (by kernel_rfl) (by kernel_rfl) (fun _ _ _ h => h) (Or.inl ⟨by rfl, fun x j => by go_simp⟩) j0 (fun K hK => ?_)
            go_simp
            refine hK _ _ ?_
            clear hK K
            refine held_take 4 (.int .i64 0) rfl (by kernel_rfl) (by kernel_rfl) (by kernel_rfl) (fun _ _ _ h => h) (Or.inl ⟨by rfl, fun x j => by go_simp <;> rfl⟩) j0 (fun K hK => ?_)
            go_simp
            refine hK _ _ ?_
            clear hK K
            refine held_take 5 (.bool true) rfl (by kernel_rfl) (by kernel_rfl) (by kernel_rfl) (fun _ _ _ h => h) (Or.inl ⟨by rfl, fun x j => by go_simp⟩) j0 (fun K hK => ?_)
            go_simp
            refine hK _ _ ?_
            clear hK K
            refine held_take 6 (.bool true) rfl (by kernel_rfl) (by kernel_rfl) (by kernel_rfl) (fun _ _ _ h => h) (Or.inl ⟨by rfl, fun x j => by go_simp⟩) j0 (fun K hK => ?_)
            go_simp
            refine hK _ _ ?_
            clear hK K
            refine held_take 7 (.slice (some a) n cap) rfl (by kernel_rfl) (by kernel_rfl) (by kernel_rfl) (fun _ _ _ h => h) (Or.inl ⟨by rfl, fun x j => by go_simp⟩) j0 (fun K hK => ?_)
            go_simp
            refine hK _ _ ?_
            clear hK K
            refine held_take 8 (.int .i64 (k : Int)) rfl (by kernel_rfl) (by kernel_rfl) (by kernel_rfl) (fun _ _ _ h => h) (Or.inl ⟨by rfl, fun x j => by go_simp⟩) j0 (fun K hK => ?_)
            go_simp
            refine hK _ _ ?_
            clear hK K
            refine held_take 9 (.pointer (some (a.add (k * 2)))) rfl (by kernel_rfl) (by kernel_rfl) (by kernel_rfl) (fun _ _ _ h => h) (Or.inl ⟨by rfl, fun x j => by go_simp⟩) j0 (fun K hK => ?_)
            go_simp
            refine hK _ _ ?_
            clear hK K
            refine held_take 10 (.agg (fdV x)) rfl (by kernel_rfl) (by kernel_rfl) (by kernel_rfl) (fun _ _ _ h => h) (yields_load LD.out rfl rfl rfl) j0 (fun K hK => ?_)
            go_simp
            refine hK _ _ ?_
            clear hK K
            refine held_one 11 (by kernel_rfl) (fun K hK => wpOp_in rfl rfl ?_)
            go_simp
            refine (gd _).mono ?_
            rintro e u1 ⟨rfl, F11⟩
            have j1 := j0.trans (F11.mono j0.size)
            refine hK _ _ j1 ?_
            clear gd F11 j0
            clear hK K
            refine held_take 12 (.bool true) rfl (by kernel_rfl) (by kernel_rfl) (by kernel_rfl) (fun _ _ _ h => h) (Or.inl ⟨by rfl, fun x j => by go_simp⟩) j1 (fun K hK => ?_)
            go_simp
            refine hK _ _ ?_
            clear hK K
            refine held_take 13 (.bool true) rfl (by kernel_rfl) (by kernel_rfl) (by kernel_rfl) (fun _ _ _ h => h) (Or.inl ⟨by rfl, fun x j => by go_simp⟩) j1 (fun K hK => ?_)
            go_simp
            refine hK _ _ ?_
            clear hK K
            refine held_take 14 (.slice (some a) n cap) rfl (by kernel_rfl) (by kernel_rfl) (by kernel_rfl) (fun _ _ _ h => h) (Or.inl ⟨by rfl, fun x j => by go_simp⟩) j1 (fun K hK => ?_)
            go_simp
            refine hK _ _ ?_
            clear hK K
            refine held_take 15 (.int .i64 (k : Int)) rfl (by kernel_rfl) (by kernel_rfl) (by kernel_rfl) (fun _ _ _ h => h) (Or.inl ⟨by rfl, fun x j => by go_simp⟩) j1 (fun K hK => ?_)
            go_simp
            refine hK _ _ ?_
            clear hK K
            refine held_take 16 (.pointer (some (a.add (k * 2)))) rfl (by kernel_rfl) (by kernel_rfl) (by kernel_rfl) (fun _ _ _ h => h) (Or.inl ⟨by rfl, fun x j => by go_simp⟩) j1 (fun K hK => ?_)
            go_simp
            refine hK _ _ ?_
            clear hK K
            refine held_take 17 (.pointer (some (a.add (k * 2)))) rfl (by kernel_rfl) (by kernel_rfl) (by kernel_rfl) (fun _ _ _ h => h) (Or.inl ⟨by rfl, fun x j => by go_simp⟩) j1 (fun K hK => ?_)
            go_simp
            refine hK _ _ ?_
            clear hK K
            refine held_take 18 (.string x.n) rfl (by kernel_rfl) (by kernel_rfl) (by kernel_rfl) (fun _ _ _ h => h) (Or.inl ⟨by rfl, fun x j => by have jc := C0.out _ j; go_simp⟩) j1 (fun K hK => ?_)
            go_simp
            refine hK _ _ ?_
            clear hK K
            refine held_take 19 (.int .i64 (x.n.size : Int)) rfl (by kernel_rfl) (by kernel_rfl) (by kernel_rfl) (fun _ _ _ h => h) (Or.inl ⟨by rfl, fun x j => by go_simp⟩) j1 (fun K hK => ?_)
            go_simp
            refine hK _ _ ?_
            clear hK K
            refine held_take 20 (.slice (some a) n cap) rfl (by kernel_rfl) (by kernel_rfl) (by kernel_rfl) (fun _ _ _ h => h) (Or.inl ⟨by rfl, fun x j => by go_simp⟩) j1 (fun K hK => ?_)
            go_simp
            refine hK _ _ ?_
            clear hK K
            refine held_take 21 (.int .i64 (k : Int)) rfl (by kernel_rfl) (by kernel_rfl) (by kernel_rfl) (fun _ _ _ h => h) (Or.inl ⟨by rfl, fun x j => by go_simp⟩) j1 (fun K hK => ?_)
            go_simp
            refine hK _ _ ?_
            clear hK K
            refine held_take 22 (.pointer (some (a.add (k * 2)))) rfl (by kernel_rfl) (by kernel_rfl) (by kernel_rfl) (fun _ _ _ h => h) (Or.inl ⟨by rfl, fun x j => by go_simp⟩) j1 (fun K hK => ?_)
            go_simp
            refine hK _ _ ?_
            clear hK K
            refine held_take 23 (.pointer (some { (a.add (k * 2)) with off := (a.add (k * 2)).off + 1, spot := none })) rfl (by kernel_rfl) (by kernel_rfl) (by kernel_rfl) (fun _ _ _ h => h) (Or.inl ⟨by rfl, fun x j => by go_simp⟩) j1 (fun K hK => ?_)
            go_simp
            refine hK _ _ ?_
            clear hK K
            refine held_take 24 (.string x.v) rfl (by kernel_rfl) (by kernel_rfl) (by kernel_rfl) (fun _ _ _ h => h) (Or.inl ⟨by rfl, fun x j => by have jc := C1.out _ j; go_simp⟩) j1 (fun K hK => ?_)
            go_simp
            refine hK _ _ ?_
            clear hK K
            refine held_take 25 (.int .i64 (x.v.size : Int)) rfl (by kernel_rfl) (by kernel_rfl) (by kernel_rfl) (fun _ _ _ h => h) (Or.inl ⟨by rfl, fun x j => by go_simp⟩) j1 (fun K hK => ?_)
            go_simp
            refine hK _ _ ?_
            clear hK K
            refine held_take 26 (.int .i64 ((x.n.size : Int) + (x.v.size : Int))) rfl (by kernel_rfl) (by kernel_rfl) (by kernel_rfl) (fun _ _ _ h => h) (Or.inl ⟨by rfl, fun x j => by go_simp⟩) j1 (fun K hK => ?_)
            go_simp
            refine hK _ _ ?_
            clear hK K
            refine held_take 27 (.bool true) rfl (by kernel_rfl) (by kernel_rfl) (by kernel_rfl) (fun _ _ _ h => h) (Or.inl ⟨by rfl, fun x j => by go_simp⟩) j1 (fun K hK => ?_)
            go_simp
            refine hK _ _ ?_
            clear hK K
            refine held_take 28 (.bool true) rfl (by kernel_rfl) (by kernel_rfl) (by kernel_rfl) (fun _ _ _ h => h) (Or.inl ⟨by rfl, fun x j => by go_simp⟩) j1 (fun K hK => ?_)
            go_simp
            refine hK _ _ ?_
            clear hK K
            refine wpAnyH_done (by kernel_rfl) ?_ _
            have JE := j1
            clear j1
            obtain ⟨_, L5⟩ := LDX.out _ JE
            go_wp2_with (refine wpl_load L5 rfl rfl rfl ?_)
            refine (pr _).mono ?_
            rintro e u5 ⟨rfl, F5⟩
            have JF := JE.trans (F5.mono JE.size)
            clear pr L5 F5 JE
            go_wp2
            go_roundw
            case rel => exact ⟨_, k + 1, rfl, by go_num, HN2.out _ JF⟩
            case measure => simp [intOf]; omega
          · have g100 : ¬ (x.n.size : Int) + (x.v.size : Int) < 100 := by omega
            have HN2 := Lib.hid (show SInv w wr n k S → ∀ u, Below w.heap.size w u → SInv w u n (k + 1) S from fun J u hb => ⟨by omega, hb, by obtain ⟨kx, a, b, c⟩ := J.is; exact ⟨kx, a, by omega, c⟩⟩)
            clear h100
            go_wp2_with (first | refine wpl_load L1 rfl rfl rfl ?_ | refine wpl_build (fdV_size x) rfl rfl rfl ?_)
            refine (G1.out wr bel).mono ?_
            rintro e w1 ⟨rfl, B1⟩
            clear L1
            obtain ⟨_, L2⟩ := LDX.out w1 B1
            go_wp2_with (first | refine wpl_load L2 rfl rfl rfl ?_ | refine wpl_build (fdV_size x) rfl rfl rfl ?_)
            refine (G2.out w1 B1).mono ?_
            rintro e w2 ⟨rfl, B2⟩
            clear L2 B1
            obtain ⟨_, L3⟩ := LDX.out w2 B2
            go_wp2_with (first | refine wpl_load L3 rfl rfl rfl ?_ | refine wpl_build (fdV_size x) rfl rfl rfl ?_)
            refine (G3.out w2 B2).mono ?_
            rintro e w3 ⟨rfl, B3⟩
            clear L3 B2
            go_upto_region 12 with (fail)
            refine wp_region_held (S := fun u => Below w.heap.size w u) (by kernel_rfl) ?_
            change wpAnyH _ _ _ _ _ _ _ _ w3.drew
            have j0 : Below w.heap.size w w3.drew := B3.drew
            have LD := Lib.hid (fun u (hb : Below w.heap.size w u) => (LDX.out u hb).2)
            have C0 := Lib.hid (fun u (hb : Below w.heap.size w u) => (CEL.out u hb).1)
            have C1 := Lib.hid (fun u (hb : Below w.heap.size w u) => (CEL.out u hb).2)
            generalize w3.drew = w4 at j0 ⊢
            clear B3
            refine held_take 0 (.int .i64 0) rfl (by kernel_rfl) (by kernel_rfl) (by kernel_rfl) (fun _ _ _ h => h) (Or.inl ⟨by rfl, fun x j => by go_simp⟩) j0 (fun K hK => ?_)
            go_simp
            refine hK _ _ ?_
            clear hK K
            refine held_take 1 (.int .i64 0) rfl (by kernel_rfl) (by kernel_rfl) (by kernel_rfl) (fun _ _ _ h => h) (Or.inl ⟨by rfl, fun x j => by go_simp⟩) j0 (fun K hK => ?_)
            go_simp
            refine hK _ _ ?_
            clear hK K
            refine held_take 2 (.int .i64 0) rfl (by kernel_rfl) (by kernel_rfl) (by kernel_rfl) (fun _ _ _ h => h) (Or.inl ⟨by rfl, fun x j => by go_simp <;> rfl⟩) j0 (fun K hK => ?_)
            go_simp
            refine hK _ _ ?_
            clear hK K
            refine held_take 3 (.int .i64 0) rfl (by kernel_rfl) (by kernel_rfl) (by kernel_rfl) (fun _ _ _ h => h) (Or.inl ⟨by rfl, fun x j => by go_simp⟩) j0 (fun K hK => ?_)
            go_simp
            refine hK _ _ ?_
            clear hK K
            refine held_take 4 (.int .i64 0) rfl (by kernel_rfl) (by kernel_rfl) (by kernel_rfl) (fun _ _ _ h => h) (Or.inl ⟨by rfl, fun x j => by go_simp <;> rfl⟩) j0 (fun K hK => ?_)
            go_simp
            refine hK _ _ ?_
            clear hK K
            refine held_take 5 (.bool true) rfl (by kernel_rfl) (by kernel_rfl) (by kernel_rfl) (fun _ _ _ h => h) (Or.inl ⟨by rfl, fun x j => by go_simp⟩) j0 (fun K hK => ?_)
            go_simp
            refine hK _ _ ?_
            clear hK K
            refine held_take 6 (.bool true) rfl (by kernel_rfl) (by kernel_rfl) (by kernel_rfl) (fun _ _ _ h => h) (Or.inl ⟨by rfl, fun x j => by go_simp⟩) j0 (fun K hK => ?_)
            go_simp
            refine hK _ _ ?_
            clear hK K
            refine held_take 7 (.slice (some a) n cap) rfl (by kernel_rfl) (by kernel_rfl) (by kernel_rfl) (fun _ _ _ h => h) (Or.inl ⟨by rfl, fun x j => by go_simp⟩) j0 (fun K hK => ?_)
            go_simp
            refine hK _ _ ?_
            clear hK K
            refine held_take 8 (.int .i64 (k : Int)) rfl (by kernel_rfl) (by kernel_rfl) (by kernel_rfl) (fun _ _ _ h => h) (Or.inl ⟨by rfl, fun x j => by go_simp⟩) j0 (fun K hK => ?_)
            go_simp
            refine hK _ _ ?_
            clear hK K
            refine held_take 9 (.pointer (some (a.add (k * 2)))) rfl (by kernel_rfl) (by kernel_rfl) (by kernel_rfl) (fun _ _ _ h => h) (Or.inl ⟨by rfl, fun x j => by go_simp⟩) j0 (fun K hK => ?_)
            go_simp
            refine hK _ _ ?_
            clear hK K
            refine held_take 10 (.agg (fdV x)) rfl (by kernel_rfl) (by kernel_rfl) (by kernel_rfl) (fun _ _ _ h => h) (yields_load LD.out rfl rfl rfl) j0 (fun K hK => ?_)
            go_simp
            refine hK _ _ ?_
            clear hK K
            refine held_one 11 (by kernel_rfl) (fun K hK => wpOp_in rfl rfl ?_)
            go_simp
            refine (gd _).mono ?_
            rintro e u1 ⟨rfl, F11⟩
            have j1 := j0.trans (F11.mono j0.size)
            refine hK _ _ j1 ?_
            clear gd F11 j0
            clear hK K
            refine held_take 12 (.bool true) rfl (by kernel_rfl) (by kernel_rfl) (by kernel_rfl) (fun _ _ _ h => h) (Or.inl ⟨by rfl, fun x j => by go_simp⟩) j1 (fun K hK => ?_)
            go_simp
            refine hK _ _ ?_
            clear hK K
            refine held_take 13 (.bool true) rfl (by kernel_rfl) (by kernel_rfl) (by kernel_rfl) (fun _ _ _ h => h) (Or.inl ⟨by rfl, fun x j => by go_simp⟩) j1 (fun K hK => ?_)
            go_simp
            refine hK _ _ ?_
            clear hK K
            refine held_take 14 (.slice (some a) n cap) rfl (by kernel_rfl) (by kernel_rfl) (by kernel_rfl) (fun _ _ _ h => h) (Or.inl ⟨by rfl, fun x j => by go_simp⟩) j1 (fun K hK => ?_)
            go_simp
            refine hK _ _ ?_
            clear hK K
            refine held_take 15 (.int .i64 (k : Int)) rfl (by kernel_rfl) (by kernel_rfl) (by kernel_rfl) (fun _ _ _ h => h) (Or.inl ⟨by rfl, fun x j => by go_simp⟩) j1 (fun K hK => ?_)
            go_simp
            refine hK _ _ ?_
            clear hK K
            refine held_take 16 (.pointer (some (a.add (k * 2)))) rfl (by kernel_rfl) (by kernel_rfl) (by kernel_rfl) (fun _ _ _ h => h) (Or.inl ⟨by rfl, fun x j => by go_simp⟩) j1 (fun K hK => ?_)
            go_simp
            refine hK _ _ ?_
            clear hK K
            refine held_take 17 (.pointer (some (a.add (k * 2)))) rfl (by kernel_rfl) (by kernel_rfl) (by kernel_rfl) (fun _ _ _ h => h) (Or.inl ⟨by rfl, fun x j => by go_simp⟩) j1 (fun K hK => ?_)
            go_simp
            refine hK _ _ ?_
            clear hK K
            refine held_take 18 (.string x.n) rfl (by kernel_rfl) (by kernel_rfl) (by kernel_rfl) (fun _ _ _ h => h) (Or.inl ⟨by rfl, fun x j => by have jc := C0.out _ j; go_simp⟩) j1 (fun K hK => ?_)
            go_simp
            refine hK _ _ ?_
            clear hK K
            refine held_take 19 (.int .i64 (x.n.size : Int)) rfl (by kernel_rfl) (by kernel_rfl) (by kernel_rfl) (fun _ _ _ h => h) (Or.inl ⟨by rfl, fun x j => by go_simp⟩) j1 (fun K hK => ?_)
            go_simp
            refine hK _ _ ?_
            clear hK K
            refine held_take 20 (.slice (some a) n cap) rfl (by kernel_rfl) (by kernel_rfl) (by kernel_rfl) (fun _ _ _ h => h) (Or.inl ⟨by rfl, fun x j => by go_simp⟩) j1 (fun K hK => ?_)
            go_simp
            refine hK _ _ ?_
            clear hK K
            refine held_take 21 (.int .i64 (k : Int)) rfl (by kernel_rfl) (by kernel_rfl) (by kernel_rfl) (fun _ _ _ h => h) (Or.inl ⟨by rfl, fun x j => by go_simp⟩) j1 (fun K hK => ?_)
            go_simp
            refine hK _ _ ?_
            clear hK K
            refine held_take 22 (.pointer (some (a.add (k * 2)))) rfl (by kernel_rfl) (by kernel_rfl) (by kernel_rfl) (fun _ _ _ h => h) (Or.inl ⟨by rfl, fun x j => by go_simp⟩) j1 (fun K hK => ?_)
            go_simp
            refine hK _ _ ?_
            clear hK K
            refine held_take 23 (.pointer (some { (a.add (k * 2)) with off := (a.add (k * 2)).off + 1, spot := none })) rfl (by kernel_rfl) (by kernel_rfl) (by kernel_rfl) (fun _ _ _ h => h) (Or.inl ⟨by rfl, fun x j => by go_simp⟩) j1 (fun K hK => ?_)
            go_simp
            refine hK _ _ ?_
            clear hK K
            refine held_take 24 (.string x.v) rfl (by kernel_rfl) (by kernel_rfl) (by kernel_rfl) (fun _ _ _ h => h) (Or.inl ⟨by rfl, fun x j => by have jc := C1.out _ j; go_simp⟩) j1 (fun K hK => ?_)
            go_simp
            refine hK _ _ ?_
            clear hK K
            refine held_take 25 (.int .i64 (x.v.size : Int)) rfl (by kernel_rfl) (by kernel_rfl) (by kernel_rfl) (fun _ _ _ h => h) (Or.inl ⟨by rfl, fun x j => by go_simp⟩) j1 (fun K hK => ?_)
            go_simp
            refine hK _ _ ?_
            clear hK K
            refine held_take 26 (.int .i64 ((x.n.size : Int) + (x.v.size : Int))) rfl (by kernel_rfl) (by kernel_rfl) (by kernel_rfl) (fun _ _ _ h => h) (Or.inl ⟨by rfl, fun x j => by go_simp⟩) j1 (fun K hK => ?_)
            go_simp
            refine hK _ _ ?_
            clear hK K
            refine held_take 27 (.bool false) rfl (by kernel_rfl) (by kernel_rfl) (by kernel_rfl) (fun _ _ _ h => h) (Or.inl ⟨by rfl, fun x j => by go_simp⟩) j1 (fun K hK => ?_)
            go_simp
            refine hK _ _ ?_
            clear hK K
            refine held_take 28 (.bool false) rfl (by kernel_rfl) (by kernel_rfl) (by kernel_rfl) (fun _ _ _ h => h) (Or.inl ⟨by rfl, fun x j => by go_simp⟩) j1 (fun K hK => ?_)
            go_simp
            refine hK _ _ ?_
            clear hK K
            refine wpAnyH_done (by kernel_rfl) ?_ _
            have JE := j1
            clear j1
            go_wp2
            go_roundw
            case rel => exact ⟨S, k + 1, rfl, by go_num, HN2.out HJ.out _ JE⟩
            case measure => simp [intOf]; omega
      · have gs : ((hn : Int) + (cn : Int) + (tn : Int) == 0) = false := by rw [beq_eq_false_iff_ne]; omega
        have G1 := Lib.hid q1
        have G2 := Lib.hid q2
        have G3 := Lib.hid q3
        unfold nHost at G1
        unfold nCL at G2
        unfold nTE at G3
        have HN2 := Lib.hid (show SInv w wr n k S → ∀ u, Below w.heap.size w u → SInv w u n (k + 1) S from fun J u hb => ⟨by omega, hb, by obtain ⟨kx, a, b, c⟩ := J.is; exact ⟨kx, a, by omega, c⟩⟩)
        clear q1 q2 q3 hsum
        go_wp2_with (first | refine wpl_load L1 rfl rfl rfl ?_ | refine wpl_build (fdV_size x) rfl rfl rfl ?_)
        refine (G1.out wr bel).mono ?_
        rintro e w1 ⟨rfl, B1⟩
        clear L1
        obtain ⟨_, L2⟩ := LDX.out w1 B1
        go_wp2_with (first | refine wpl_load L2 rfl rfl rfl ?_ | refine wpl_build (fdV_size x) rfl rfl rfl ?_)
        refine (G2.out w1 B1).mono ?_
        rintro e w2 ⟨rfl, B2⟩
        clear L2 B1
        obtain ⟨_, L3⟩ := LDX.out w2 B2
        go_wp2_with (first | refine wpl_load L3 rfl rfl rfl ?_ | refine wpl_build (fdV_size x) rfl rfl rfl ?_)
        refine (G3.out w2 B2).mono ?_
        rintro e w3 ⟨rfl, B3⟩
        clear L3 B2
        go_upto_region 12 with (fail)
        go_quiet (fail)
        have JE : Below w.heap.size w (w3.drewN nq) := B3.trans ⟨rfl, rfl, rfl, Nat.le_refl _, fun _ _ => rfl⟩
        generalize w3.drewN nq = wq at *
        go_wp2
        go_roundw
        case rel => exact ⟨S, k + 1, rfl, by go_num, HN2.out HJ.out _ JE⟩
        case measure => simp [intOf]; omega
    · have l1 : ¬ (k : Int) < (n : Int) := by omega
      obtain rfl : k = n := by have := J.hk; omega
      obtain ⟨kx, h1, h2, h3⟩ := J.is
      have bel := J.bel
      have hq0 : 0 ≤ IntKind.u64.wrap what := by rw [IntKind.wrap_u64]; omega
      have hq4 : (IntKind.u64.wrap what).tmod 4 = 0 ∨ (IntKind.u64.wrap what).tmod 4 = 1 ∨ (IntKind.u64.wrap what).tmod 4 = 2 ∨ (IntKind.u64.wrap what).tmod 4 = 3 := by
        rw [Int.tmod_eq_emod_of_nonneg hq0]; omega
      clear hq0 J l1
      rcases hq4 with hq | hq | hq | hq
      · obtain ⟨TOT, eT⟩ : ∃ TOT, S ++ ⟨#[72, 111, 115, 116, 58, 32, 97, 13, 10, 67, 111, 110, 116, 101, 110, 116, 45, 76, 101, 110, 103, 116, 104, 58, 32, 48, 13, 10, 67, 111, 110, 116, 101, 110, 116, 45, 76, 101, 110, 103, 116, 104, 58, 32, 48, 13, 10]⟩ ++ ⟨#[13, 10, 48, 13, 10, 13, 10]⟩ = TOT := ⟨_, rfl⟩
        have hTOT : ls TOT = ls S ++ linesF (ysF 0) ++ [13, 10] ++ [48, 13, 10, 13, 10] := by
          rw [← eT]
          simp only [ls_append]
          have e1 : ls (⟨#[13, 10, 48, 13, 10, 13, 10]⟩ : ByteArray) = [13, 10] ++ [48, 13, 10, 13, 10] := rfl
          have e2 : ls (⟨#[72, 111, 115, 116, 58, 32, 97, 13, 10, 67, 111, 110, 116, 101, 110, 116, 45, 76, 101, 110, 103, 116, 104, 58, 32, 48, 13, 10, 67, 111, 110, 116, 101, 110, 116, 45, 76, 101, 110, 103, 116, 104, 58, 32, 48, 13, 10]⟩ : ByteArray) = linesF (ysF 0) := by decide +kernel
          rw [e1, e2]
          simp
        have hbad : rdF (ls TOT) = .bad 400 := by
          rw [hTOT, h1]
          have e := strict_bad h3 (by omega) 0 [48, 13, 10, 13, 10]
          simpa using e
        have hTz : TOT.size ≤ 16384 := by have := congrArg List.length hTOT; rw [ls_len] at this; have hy := (ys_len 0).2; rw [this]; simp only [List.length_append, List.length_cons, List.length_nil, ls_len]; omega
        clear h1 h2 h3 hTOT
        go_wp2_with fail
        refine (own_new (Owns.none wr 3) 0 rfl).mono ?_
        rintro e wb ⟨p, rfl, O1⟩
        have C2 := own_add O1 0 rfl TOT (by simpa using hTz)
        go_wp2_with fail
        refine C2.mono ?_
        rintro e wc ⟨rfl, O2⟩
        clear C2 O1
        replace O2 : Owns wr noZ wc [inT p (ls TOT) 0, noT, noT] := O2
        have C3 := own_bad O2 0 rfl (by rw [ls_len]; omega) hbad
        go_wp2_with fail
        refine C3.mono ?_
        rintro e wd ⟨rfl, O3⟩
        clear C3 O2
        replace O3 : Owns wr noZ wd [inT p (ls TOT) 400, noT, noT] := O3
        obtain ⟨we, S4, O4⟩ := own_zero O3 1 rfl
        unfold zR at S4
        go_upto_region 25 with (refine wpl_store S4 rfl rfl rfl rfl rfl ?_)
        clear S4 O3
        generalize wd.heap.size = B1 at O4 ⊢
        replace O4 : Owns wr noZ we [inT p (ls TOT) 400, xT B1 q0 (.slice none 0 0), noT] := O4
        have C5 := own_again O4 0 rfl (by decide)
        go_wp2_with fail
        refine C5.mono ?_
        rintro e wf ⟨rfl, O5⟩
        clear C5 O4
        replace O5 : Owns wr noZ wf [inT p (ls TOT) 400, xT B1 q0 (.slice none 0 0), noT] := O5
        obtain ⟨wg, S6, O6⟩ := own_zero O5 2 rfl
        unfold zR at S6
        go_upto_region 26 with (refine wpl_store S6 rfl rfl rfl rfl rfl ?_)
        clear S6 O5
        generalize wf.heap.size = B2 at O6 ⊢
        replace O6 : Owns wr noZ wg [inT p (ls TOT) 400, xT B1 q0 (.slice none 0 0), xT B2 q0 (.slice none 0 0)] := O6
        obtain ⟨A1, _⟩ := own_x O6 1 rfl
        have d0 : wg.cell? ⟨B1, 0, none⟩ = some (.string ⟨#[]⟩) := A1.cell 0
        clear A1
        have C7 := own_add_bad O6 0 rfl (by decide) ⟨#[]⟩
        go_wp2_with fail
        refine C7.mono ?_
        rintro e wh ⟨rfl, rfl⟩
        clear C7
        have BE := bel.trans (O6.bel.mono bel.size)
        clear O6
        go_wp2
        go_ret
        exact ⟨rfl, BE⟩
      · obtain ⟨TOT, eT⟩ : ∃ TOT, S ++ ⟨#[72, 111, 115, 116, 58, 32, 97, 13, 10, 67, 111, 110, 116, 101, 110, 116, 45, 76, 101, 110, 103, 116, 104, 58, 32, 53, 13, 10, 84, 114, 97, 110, 115, 102, 101, 114, 45, 69, 110, 99, 111, 100, 105, 110, 103, 58, 32, 99, 104, 117, 110, 107, 101, 100, 13, 10]⟩ ++ ⟨#[13, 10, 48, 13, 10, 13, 10]⟩ = TOT := ⟨_, rfl⟩
        have hTOT : ls TOT = ls S ++ linesF (ysF 1) ++ [13, 10] ++ [48, 13, 10, 13, 10] := by
          rw [← eT]
          simp only [ls_append]
          have e1 : ls (⟨#[13, 10, 48, 13, 10, 13, 10]⟩ : ByteArray) = [13, 10] ++ [48, 13, 10, 13, 10] := rfl
          have e2 : ls (⟨#[72, 111, 115, 116, 58, 32, 97, 13, 10, 67, 111, 110, 116, 101, 110, 116, 45, 76, 101, 110, 103, 116, 104, 58, 32, 53, 13, 10, 84, 114, 97, 110, 115, 102, 101, 114, 45, 69, 110, 99, 111, 100, 105, 110, 103, 58, 32, 99, 104, 117, 110, 107, 101, 100, 13, 10]⟩ : ByteArray) = linesF (ysF 1) := by decide +kernel
          rw [e1, e2]
          simp
        have hbad : rdF (ls TOT) = .bad 400 := by
          rw [hTOT, h1]
          have e := strict_bad h3 (by omega) 1 [48, 13, 10, 13, 10]
          simpa using e
        have hTz : TOT.size ≤ 16384 := by have := congrArg List.length hTOT; rw [ls_len] at this; have hy := (ys_len 1).2; rw [this]; simp only [List.length_append, List.length_cons, List.length_nil, ls_len]; omega
        clear h1 h2 h3 hTOT
        go_wp2_with fail
        refine (own_new (Owns.none wr 3) 0 rfl).mono ?_
        rintro e wb ⟨p, rfl, O1⟩
        have C2 := own_add O1 0 rfl TOT (by simpa using hTz)
        go_wp2_with fail
        refine C2.mono ?_
        rintro e wc ⟨rfl, O2⟩
        clear C2 O1
        replace O2 : Owns wr noZ wc [inT p (ls TOT) 0, noT, noT] := O2
        have C3 := own_bad O2 0 rfl (by rw [ls_len]; omega) hbad
        go_wp2_with fail
        refine C3.mono ?_
        rintro e wd ⟨rfl, O3⟩
        clear C3 O2
        replace O3 : Owns wr noZ wd [inT p (ls TOT) 400, noT, noT] := O3
        obtain ⟨we, S4, O4⟩ := own_zero O3 1 rfl
        unfold zR at S4
        go_upto_region 25 with (refine wpl_store S4 rfl rfl rfl rfl rfl ?_)
        clear S4 O3
        generalize wd.heap.size = B1 at O4 ⊢
        replace O4 : Owns wr noZ we [inT p (ls TOT) 400, xT B1 q0 (.slice none 0 0), noT] := O4
        have C5 := own_again O4 0 rfl (by decide)
        go_wp2_with fail
        refine C5.mono ?_
        rintro e wf ⟨rfl, O5⟩
        clear C5 O4
        replace O5 : Owns wr noZ wf [inT p (ls TOT) 400, xT B1 q0 (.slice none 0 0), noT] := O5
        obtain ⟨wg, S6, O6⟩ := own_zero O5 2 rfl
        unfold zR at S6
        go_upto_region 26 with (refine wpl_store S6 rfl rfl rfl rfl rfl ?_)
        clear S6 O5
        generalize wf.heap.size = B2 at O6 ⊢
        replace O6 : Owns wr noZ wg [inT p (ls TOT) 400, xT B1 q0 (.slice none 0 0), xT B2 q0 (.slice none 0 0)] := O6
        obtain ⟨A1, _⟩ := own_x O6 1 rfl
        have d0 : wg.cell? ⟨B1, 0, none⟩ = some (.string ⟨#[]⟩) := A1.cell 0
        clear A1
        have C7 := own_add_bad O6 0 rfl (by decide) ⟨#[]⟩
        go_wp2_with fail
        refine C7.mono ?_
        rintro e wh ⟨rfl, rfl⟩
        clear C7
        have BE := bel.trans (O6.bel.mono bel.size)
        clear O6
        go_wp2
        go_ret
        exact ⟨rfl, BE⟩
      · obtain ⟨TOT, eT⟩ : ∃ TOT, S ++ ⟨#[72, 111, 115, 116, 58, 32, 97, 13, 10, 72, 111, 115, 116, 58, 32, 97, 13, 10]⟩ ++ ⟨#[13, 10, 48, 13, 10, 13, 10]⟩ = TOT := ⟨_, rfl⟩
        have hTOT : ls TOT = ls S ++ linesF (ysF 2) ++ [13, 10] ++ [48, 13, 10, 13, 10] := by
          rw [← eT]
          simp only [ls_append]
          have e1 : ls (⟨#[13, 10, 48, 13, 10, 13, 10]⟩ : ByteArray) = [13, 10] ++ [48, 13, 10, 13, 10] := rfl
          have e2 : ls (⟨#[72, 111, 115, 116, 58, 32, 97, 13, 10, 72, 111, 115, 116, 58, 32, 97, 13, 10]⟩ : ByteArray) = linesF (ysF 2) := by decide +kernel
          rw [e1, e2]
          simp
        have hbad : rdF (ls TOT) = .bad 400 := by
          rw [hTOT, h1]
          have e := strict_bad h3 (by omega) 2 [48, 13, 10, 13, 10]
          simpa using e
        have hTz : TOT.size ≤ 16384 := by have := congrArg List.length hTOT; rw [ls_len] at this; have hy := (ys_len 2).2; rw [this]; simp only [List.length_append, List.length_cons, List.length_nil, ls_len]; omega
        clear h1 h2 h3 hTOT
        go_wp2_with fail
        refine (own_new (Owns.none wr 3) 0 rfl).mono ?_
        rintro e wb ⟨p, rfl, O1⟩
        have C2 := own_add O1 0 rfl TOT (by simpa using hTz)
        go_wp2_with fail
        refine C2.mono ?_
        rintro e wc ⟨rfl, O2⟩
        clear C2 O1
        replace O2 : Owns wr noZ wc [inT p (ls TOT) 0, noT, noT] := O2
        have C3 := own_bad O2 0 rfl (by rw [ls_len]; omega) hbad
        go_wp2_with fail
        refine C3.mono ?_
        rintro e wd ⟨rfl, O3⟩
        clear C3 O2
        replace O3 : Owns wr noZ wd [inT p (ls TOT) 400, noT, noT] := O3
        obtain ⟨we, S4, O4⟩ := own_zero O3 1 rfl
        unfold zR at S4
        go_upto_region 25 with (refine wpl_store S4 rfl rfl rfl rfl rfl ?_)
        clear S4 O3
        generalize wd.heap.size = B1 at O4 ⊢
        replace O4 : Owns wr noZ we [inT p (ls TOT) 400, xT B1 q0 (.slice none 0 0), noT] := O4
        have C5 := own_again O4 0 rfl (by decide)
        go_wp2_with fail
        refine C5.mono ?_
        rintro e wf ⟨rfl, O5⟩
        clear C5 O4
        replace O5 : Owns wr noZ wf [inT p (ls TOT) 400, xT B1 q0 (.slice none 0 0), noT] := O5
        obtain ⟨wg, S6, O6⟩ := own_zero O5 2 rfl
        unfold zR at S6
        go_upto_region 26 with (refine wpl_store S6 rfl rfl rfl rfl rfl ?_)
        clear S6 O5
        generalize wf.heap.size = B2 at O6 ⊢
        replace O6 : Owns wr noZ wg [inT p (ls TOT) 400, xT B1 q0 (.slice none 0 0), xT B2 q0 (.slice none 0 0)] := O6
        obtain ⟨A1, _⟩ := own_x O6 1 rfl
        have d0 : wg.cell? ⟨B1, 0, none⟩ = some (.string ⟨#[]⟩) := A1.cell 0
        clear A1
        have C7 := own_add_bad O6 0 rfl (by decide) ⟨#[]⟩
        go_wp2_with fail
        refine C7.mono ?_
        rintro e wh ⟨rfl, rfl⟩
        clear C7
        have BE := bel.trans (O6.bel.mono bel.size)
        clear O6
        go_wp2
        go_ret
        exact ⟨rfl, BE⟩
      · obtain ⟨TOT, eT⟩ : ∃ TOT, S ++ ⟨#[13, 10, 48, 13, 10, 13, 10]⟩ = TOT := ⟨_, rfl⟩
        have hTOT : ls TOT = ls S ++ linesF (ysF 3) ++ [13, 10] ++ [48, 13, 10, 13, 10] := by
          rw [← eT]
          simp only [ls_append]
          have e1 : ls (⟨#[13, 10, 48, 13, 10, 13, 10]⟩ : ByteArray) = [13, 10] ++ [48, 13, 10, 13, 10] := rfl
          rw [e1]
          simp [ysF, linesF]
        have hbad : rdF (ls TOT) = .bad 400 := by
          rw [hTOT, h1]
          have e := strict_bad h3 (by omega) 3 [48, 13, 10, 13, 10]
          simpa using e
        have hTz : TOT.size ≤ 16384 := by have := congrArg List.length hTOT; rw [ls_len] at this; have hy := (ys_len 3).2; rw [this]; simp only [List.length_append, List.length_cons, List.length_nil, ls_len]; omega
        clear h1 h2 h3 hTOT
        go_wp2_with fail
        refine (own_new (Owns.none wr 3) 0 rfl).mono ?_
        rintro e wb ⟨p, rfl, O1⟩
        have C2 := own_add O1 0 rfl TOT (by simpa using hTz)
        go_wp2_with fail
        refine C2.mono ?_
        rintro e wc ⟨rfl, O2⟩
        clear C2 O1
        replace O2 : Owns wr noZ wc [inT p (ls TOT) 0, noT, noT] := O2
        have C3 := own_bad O2 0 rfl (by rw [ls_len]; omega) hbad
        go_wp2_with fail
        refine C3.mono ?_
        rintro e wd ⟨rfl, O3⟩
        clear C3 O2
        replace O3 : Owns wr noZ wd [inT p (ls TOT) 400, noT, noT] := O3
        obtain ⟨we, S4, O4⟩ := own_zero O3 1 rfl
        unfold zR at S4
        go_upto_region 25 with (refine wpl_store S4 rfl rfl rfl rfl rfl ?_)
        clear S4 O3
        generalize wd.heap.size = B1 at O4 ⊢
        replace O4 : Owns wr noZ we [inT p (ls TOT) 400, xT B1 q0 (.slice none 0 0), noT] := O4
        have C5 := own_again O4 0 rfl (by decide)
        go_wp2_with fail
        refine C5.mono ?_
        rintro e wf ⟨rfl, O5⟩
        clear C5 O4
        replace O5 : Owns wr noZ wf [inT p (ls TOT) 400, xT B1 q0 (.slice none 0 0), noT] := O5
        obtain ⟨wg, S6, O6⟩ := own_zero O5 2 rfl
        unfold zR at S6
        go_upto_region 26 with (refine wpl_store S6 rfl rfl rfl rfl rfl ?_)
        clear S6 O5
        generalize wf.heap.size = B2 at O6 ⊢
        replace O6 : Owns wr noZ wg [inT p (ls TOT) 400, xT B1 q0 (.slice none 0 0), xT B2 q0 (.slice none 0 0)] := O6
        obtain ⟨A1, _⟩ := own_x O6 1 rfl
        have d0 : wg.cell? ⟨B1, 0, none⟩ = some (.string ⟨#[]⟩) := A1.cell 0
        clear A1
        have C7 := own_add_bad O6 0 rfl (by decide) ⟨#[]⟩
        go_wp2_with fail
        refine C7.mono ?_
        rintro e wh ⟨rfl, rfl⟩
        clear C7
        have BE := bel.trans (O6.bel.mono bel.size)
        clear O6
        go_wp2
        go_ret
        exact ⟨rfl, BE⟩
end Go.Proofs.YtbngfphiachnoaaGreatDoor.In
