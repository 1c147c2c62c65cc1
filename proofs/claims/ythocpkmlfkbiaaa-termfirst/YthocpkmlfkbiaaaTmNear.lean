/-
  Rows of numbers in memory; contracts of term.Nearest and the document's: the least of the spans among them, without a sign on 0; without end, if there is none.
-/
import Derived.Test.YthocpkmlfkbiaaaTmAwake
import Derived.Carry
import Derived.Deep.Slices
namespace Go.Proofs.Ythocpkmlfkbiaaa.Tm
open Go.RowKit Go.Proofs.Ythocpkmlfkbiaaa.Rl
set_option linter.unusedVariables false

/-- v reads as the numbers l in w -/
structure FlsAt (w : World) (v : Value) (l : List Nat) : Prop where
  is : ∃ base cap, v = .slice base l.length cap ∧ ∀ j x, l[j]? = some x → ∃ a : Addr, base = some a ∧ a.block < w.heap.size ∧ w.cell? (a.add j) = some (.float .f64 x)
theorem none_fls (w : World) : FlsAt w (.slice none 0 0) [] := ⟨none, 0, rfl, by simp⟩
theorem trod_float {H : Type} {enc : TypeId × Value → H} {P : Program} {w : World} {base : Nat} {spare : Nat → Bool} {held : Bool} {fuel : Nat} {t : TypeId} {cs : List Value} {x : DataW H × List MemPlace} {k : FloatKind}
    (ht : P.underlying t = some (.float k)) (h : DataW.trod enc P w base spare held fuel t cs = some x) : ∃ n, cs = [.float k n] ∧ (Lit.float k n).wf = true := by
  cases fuel with
  | zero => simp [DataW.trod] at h
  | succ n =>
    unfold DataW.trod at h
    rw [ht] at h
    split at h <;> simp_all
theorem open_fls {H : Type} {enc : TypeId × Value → H} {P : Program} {w : World} {base : Nat} {spare : Nat → Bool} {held : Bool} {fuel : Nat} {t e : TypeId} {b : Option Addr} {len cap : Nat} {x : DataW H × List MemPlace}
    (ht : P.underlying t = some (.slice e)) (he : P.underlying e = some (.float .f64)) (hc : P.cellsOf e = 1) (h : DataW.trod enc P w base spare held fuel t [.slice b len cap] = some x) :
    ∃ l : List Nat, FlsAt w (.slice b len cap) l ∧ l.length ≤ 9223372036854775807 ∧ ∀ y ∈ l, y < 18446744073709551616 := by
  rcases Deep.open_slice1 ht hc h with ⟨hcs, _⟩ | ⟨a, len', cap', m, n, V, D, Pl, hcs, hb, hl, hm, hmm, _, hx⟩
  · simp at hcs
    obtain ⟨rfl, rfl, rfl⟩ := hcs
    exact ⟨[], none_fls w, by simp, by simp⟩
  · simp at hcs
    obtain ⟨rfl, rfl, rfl⟩ := hcs
    have hlm : len ≤ m := by rw [hmm]; split <;> omega
    have hf : ∀ i, i < len → ∃ y, w.cell? (a.add i) = some (.float .f64 y) ∧ y < 18446744073709551616 := by
      intro i hi
      obtain ⟨h1, h2⟩ := hx i (by omega)
      obtain ⟨y, e1, e2⟩ := trod_float he h2
      simp only [List.cons.injEq, and_true] at e1
      rw [e1] at h1
      simp only [Lit.wf, decide_eq_true_eq] at e2
      exact ⟨y, h1, e2⟩
    obtain ⟨Y, hY⟩ := Deep.choose_lt (α := Nat) (p := fun i y => w.cell? (a.add i) = some (.float .f64 y) ∧ y < 18446744073709551616) hf
    refine ⟨(List.range len).map Y, ⟨some a, cap, by simp, ?_⟩, ?_, ?_⟩
    · intro j y hj
      have hlt : j < len := by
        have := (List.getElem?_eq_some_iff.1 hj).1
        simpa using this
      have : y = Y j := by simpa [hlt] using hj.symm
      subst this
      have hcell := (hY j hlt).1
      have hb := World.block_lt_of_cell? w _ hcell
      rw [show (a.add j).block = a.block by unfold Addr.add; split <;> rfl] at hb
      exact ⟨a, rfl, hb, hcell⟩
    · simp; unfold maxLen at hm; omega
    · intro y hy
      simp only [List.mem_map, List.mem_range] at hy
      obtain ⟨i, hi, rfl⟩ := hy
      exact (hY i hi).2
theorem FlsAt.below {w x : World} {v : Value} {l : List Nat} (hv : FlsAt w v l) (hb : Below w.heap.size w x) : FlsAt x v l := by
  obtain ⟨base, cap, e, hc⟩ := hv.is
  refine ⟨base, cap, e, fun j s hs => ?_⟩
  obtain ⟨a, e, ha, hcell⟩ := hc j s hs
  refine ⟨a, e, Nat.lt_of_lt_of_le ha hb.size, ?_⟩
  rw [hb.cell (by have : (a.add j).block = a.block := by unfold Addr.add; split <;> rfl
                  rw [this]; exact ha)]
  exact hcell

/-- one step of the search -/
def nr1 (acc x : Nat) : Nat := if gd x then min acc (rg x) else acc
/-- the nearest of spans -/
def nr (l : List Nat) : Nat := l.foldl nr1 9218868437227405312
theorem nr_nil : nr [] = 9218868437227405312 := rfl
theorem nr_snoc (l : List Nat) (k x : Nat) (h : l[k]? = some x) : nr (l.take (k + 1)) = nr1 (nr (l.take k)) x := by
  unfold nr
  rw [List.take_add_one, h]
  simp
theorem nr1_le (acc x : Nat) : nr1 acc x ≤ acc := by unfold nr1; split <;> omega
theorem fold_le (l : List Nat) : ∀ acc, l.foldl nr1 acc ≤ acc := by
  induction l with
  | nil => intro acc; exact Nat.le_refl _
  | cons x l ih => intro acc; exact Nat.le_trans (ih _) (nr1_le acc x)
theorem nr_le (l : List Nat) : nr l ≤ 9218868437227405312 := fold_le l _
attribute [irreducible] nr

theorem cl_rg {x : Nat} (hx : x < 18446744073709551616) (g : gd x = true) : cl x = rg x := by
  obtain ⟨g1, g2, g3⟩ := gd_rg hx g
  have b := cls_of _ (place_range x hx)
  have g := of_decide_eq_true g
  unfold cl
  unfold kp at g2
  rw [if_neg (by omega)]
  split at g2
  · rw [if_pos (by omega)]; omega
  · split
    · omega
    · rcases g3 with c | c
      · exact c
      · subst c; exact absurd (show cls (place 9223372036854775808) = 4 ∨ cls (place 9223372036854775808) = 5 by decide) (by assumption)
theorem nr1_no {acc x : Nat} (g : gd x = false) : nr1 acc x = acc := by unfold nr1; rw [g]; rfl
theorem lt_acc {acc x : Nat} (hx : x < 18446744073709551616) (ha : acc ≤ 9218868437227405312) (g : gd x = true) : (lt x acc = true → nr1 acc x = cl x) ∧ (lt x acc = false → nr1 acc x = acc) := by
  obtain ⟨g1, g2, g3⟩ := gd_rg hx g
  have c := cl_rg hx g
  unfold nr1
  rw [g, if_pos rfl, c]
  have g := of_decide_eq_true g
  unfold lt
  rw [place_pos' ha]
  unfold kp at g2
  constructor
  · intro h
    have h := of_decide_eq_true h
    split at g2 <;> omega
  · intro h
    have h := of_decide_eq_false h
    split at g2 <;> omega
theorem lt_acc' {acc x : Nat} (hx : x < 18446744073709551616) (ha : acc ≤ 9218868437227405312) (g : gd x = true) : (lt (cl x) acc = true → nr1 acc x = cl x) ∧ (lt (cl x) acc = false → nr1 acc x = acc) := by
  obtain ⟨g1, g2, g3⟩ := gd_rg hx g
  have c := cl_rg hx g
  unfold nr1
  rw [g, if_pos rfl, c]
  unfold lt
  rw [place_pos' ha, place_pos' g1]
  constructor
  · intro h
    have h := of_decide_eq_true h
    omega
  · intro h
    have h := of_decide_eq_false h
    omega
theorem inf_one (w : World) : Calls Try.prog 30 #[.int .i64 1] w fun e w' => e = .returned (.float .f64 9218868437227405312) ∧ w = w' := inf_any 1 w
theorem refratio_inf (w : World) : Calls Try.prog 33 #[.int .i64 1, .int .i64 0] w fun e w' => e = .returned (.float .f64 9218868437227405312) ∧ w = w' := by
  have r := refratio_any 1 0 w (by decide) (by decide) (by decide) (by decide)
  rw [show rat 1 0 = 9218868437227405312 by unfold rat; rfl] at r
  exact r

set_option maxHeartbeats 1000000 in
theorem nearest_any {w : World} {v : Value} {l : List Nat} (hv : FlsAt w v l) (hl : l.length ≤ 9223372036854775807) (hz : ∀ x ∈ l, x < 18446744073709551616) :
    Calls Try.prog 21 #[v] w fun e w' => e = .returned (.float .f64 (nr l)) ∧ w = w' := by
  obtain ⟨base, cap, rfl, hc⟩ := hv.is
  clear hv
  have HC := Lib.hid hc
  have HZ := Lib.hid hz
  clear hc hz
  go_enter Try.func21, Try.ntmps21
  go_wp2_with fail
  refine (inf_one w).mono ?_
  rintro e w' ⟨rfl, rfl⟩
  go_wp2
  go_loopw [3, 9] (fun x i wr => ∃ k : Nat, k ≤ l.length ∧ x = .float .f64 (nr (l.take k)) ∧ i = .int .i64 k ∧ w = wr) (fun _ i _ => l.length - (intOf i).toNat)
  case atStart => exact ⟨0, Nat.zero_le _, by rw [List.take_zero, nr_nil], rfl, rfl⟩
  case round =>
    obtain ⟨k, hk, rfl, rfl, rfl⟩ := hrel
    by_cases hlt : k < l.length
    · obtain ⟨s, hs⟩ : ∃ s, l[k]? = some s := ⟨l[k], List.getElem?_eq_getElem hlt⟩
      obtain ⟨a, rfl, ha, hcell⟩ := HC.out k s hs
      have hx := HZ.out s (List.mem_of_getElem? hs)
      have E := Lib.hid (nr_snoc l k s hs)
      have HA := nr_le (l.take k)
      clear hs
      have l1 : (k : Int) < (l.length : Int) := by omega
      generalize nr (l.take k) = acc at *
      have G := good_any s w hx
      cases g : gd s with
      | false =>
        rw [g] at G
        have N := Lib.hid (nr1_no (acc := acc) g)
        clear g HA
        go_wp2_with fail
        refine G.mono ?_
        rintro e w' ⟨rfl, rfl⟩
        clear G
        go_wp2
        go_roundw
        case rel => exact ⟨k + 1, by omega, by rw [E.out, N.out], by go_num, trivial⟩
        case measure => simp [intOf]; omega
      | true =>
        rw [g] at G
        have L := less_any s acc w hx (by omega)
        obtain ⟨m1, m2⟩ := lt_acc hx HA g
        cases q : lt s acc with
        | false =>
          rw [q] at L
          have N := Lib.hid (m2 q)
          clear g HA m1 m2 q
          go_wp2_with fail
          refine G.mono ?_
          rintro e w' ⟨rfl, rfl⟩
          go_wp2_with fail
          refine L.mono ?_
          rintro e w' ⟨rfl, rfl⟩
          clear G L
          go_wp2
          go_roundw
          case rel => exact ⟨k + 1, by omega, by rw [E.out, N.out], by go_num, trivial⟩
          case measure => simp [intOf]; omega
        | true =>
          rw [q] at L
          have N := Lib.hid (m1 q)
          have C := clean_any s w hx
          generalize cl s = cs at *
          clear g HA m1 m2 q
          go_wp2_with fail
          refine G.mono ?_
          rintro e w' ⟨rfl, rfl⟩
          go_wp2_with fail
          refine L.mono ?_
          rintro e w' ⟨rfl, rfl⟩
          go_wp2_with fail
          refine C.mono ?_
          rintro e w' ⟨rfl, rfl⟩
          clear G L C
          go_wp2
          go_roundw
          case rel => exact ⟨k + 1, by omega, by rw [E.out, N.out], by go_num, trivial⟩
          case measure => simp [intOf]; omega
    · have e : l.take k = l := List.take_of_length_le (by omega)
      have l1 : ¬ (k : Int) < (l.length : Int) := by omega
      rw [e]
      go_wp2
      go_ret
      exact ⟨rfl, rfl⟩
set_option maxHeartbeats 1000000 in
theorem refnearest_any {w : World} {v : Value} {l : List Nat} (hv : FlsAt w v l) (hl : l.length ≤ 9223372036854775807) (hz : ∀ x ∈ l, x < 18446744073709551616) :
    Calls Try.prog 22 #[v] w fun e w' => e = .returned (.float .f64 (nr l)) ∧ w = w' := by
  obtain ⟨base, cap, rfl, hc⟩ := hv.is
  clear hv
  have HC := Lib.hid hc
  have HZ := Lib.hid hz
  clear hc hz
  go_enter Try.func22, Try.ntmps22
  go_wp2_with fail
  refine (refratio_inf w).mono ?_
  rintro e w' ⟨rfl, rfl⟩
  go_wp2
  go_loopw [3, 4] (fun x i wr => ∃ k : Nat, k ≤ l.length ∧ x = .float .f64 (nr (l.take k)) ∧ i = .int .i64 k ∧ w = wr) (fun _ i _ => l.length - (intOf i).toNat)
  case atStart => exact ⟨0, Nat.zero_le _, by rw [List.take_zero, nr_nil], rfl, rfl⟩
  case round =>
    obtain ⟨k, hk, rfl, rfl, rfl⟩ := hrel
    by_cases hlt : k < l.length
    · obtain ⟨s, hs⟩ : ∃ s, l[k]? = some s := ⟨l[k], List.getElem?_eq_getElem hlt⟩
      obtain ⟨a, rfl, ha, hcell⟩ := HC.out k s hs
      have hx := HZ.out s (List.mem_of_getElem? hs)
      have E := Lib.hid (nr_snoc l k s hs)
      have HA := nr_le (l.take k)
      clear hs
      have l1 : (k : Int) < (l.length : Int) := by omega
      generalize nr (l.take k) = acc at *
      have G := refgood_any s w hx
      cases g : gd s with
      | false =>
        rw [g] at G
        have N := Lib.hid (nr1_no (acc := acc) g)
        clear g HA
        go_wp2_with fail
        refine G.mono ?_
        rintro e w' ⟨rfl, rfl⟩
        clear G
        go_wp2
        go_roundw
        case rel => exact ⟨k + 1, by omega, by rw [E.out, N.out], by go_num, trivial⟩
        case measure => simp [intOf]; omega
      | true =>
        rw [g] at G
        have C := refclean_any s w hx
        have L := refless_any (cl s) acc w (cl_lt s hx) (by omega)
        obtain ⟨m1, m2⟩ := lt_acc' hx HA g
        generalize cl s = cs at *
        cases q : lt cs acc with
        | false =>
          rw [q] at L
          have N := Lib.hid (m2 q)
          clear g HA m1 m2 q
          go_wp2_with fail
          refine G.mono ?_
          rintro e w' ⟨rfl, rfl⟩
          go_wp2_with fail
          refine C.mono ?_
          rintro e w' ⟨rfl, rfl⟩
          go_wp2_with fail
          refine L.mono ?_
          rintro e w' ⟨rfl, rfl⟩
          clear G L C
          go_wp2
          go_roundw
          case rel => exact ⟨k + 1, by omega, by rw [E.out, N.out], by go_num, trivial⟩
          case measure => simp [intOf]; omega
        | true =>
          rw [q] at L
          have N := Lib.hid (m1 q)
          clear g HA m1 m2 q
          go_wp2_with fail
          refine G.mono ?_
          rintro e w' ⟨rfl, rfl⟩
          go_wp2_with fail
          refine C.mono ?_
          rintro e w' ⟨rfl, rfl⟩
          go_wp2_with fail
          refine L.mono ?_
          rintro e w' ⟨rfl, rfl⟩
          go_wp2_with fail
          refine C.mono ?_
          rintro e w' ⟨rfl, rfl⟩
          clear G L C
          go_wp2
          go_roundw
          case rel => exact ⟨k + 1, by omega, by rw [E.out, N.out], by go_num, trivial⟩
          case measure => simp [intOf]; omega
    · have e : l.take k = l := List.take_of_length_le (by omega)
      have l1 : ¬ (k : Int) < (l.length : Int) := by omega
      rw [e]
      go_wp2
      go_ret
      exact ⟨rfl, rfl⟩
end Go.Proofs.Ythocpkmlfkbiaaa.Tm
