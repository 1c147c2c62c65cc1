/-
  Acts of the laws: how they are made, and whether one is more than is asked.
-/
import Derived.Test.YtdmgobffhpgjlaaGreatDgAwake
import Derived.Test.YtdmgobffhpgjlaaGreatSlOpen

namespace Go.Proofs.YtdmgobffhpgjlaaGreat.Sl.Dg
open Go.RowKit Go.PlainAid Go.Proofs.YtdmgobffhpgjlaaGreat.Cr
set_option linter.unusedVariables false
set_option maxRecDepth 20000
set_option linter.unusedSimpArgs false

def actV (kd : Int) (x : Sp) (v : Value) (a n m : Int) (s : ByteArray) : Array Value := ([Value.int .i64 kd] ++ (slL x ++ [v, .int .i64 a, .int .i64 n, .int .i64 m, .string s])).toArray
theorem act_size {kd : Int} {x : Sp} {v : Value} {a n m : Int} {s : ByteArray} (h : x.dig.length = 32) : (actV kd x v a n m s).size = 44 := by simp [actV, slL_len h]
section
variable {kd : Int} {x : Sp} {v : Value} {a n m : Int} {s : ByteArray}
theorem act36 (h : x.dig.length = 32) : (actV kd x v a n m s)[36]? = some (.string x.ty) := by
  simp [actV, slL, List.getElem?_append, dV_len, h]
theorem act39 (h : x.dig.length = 32) : (actV kd x v a n m s)[39]? = some v := by
  simp [actV, List.getElem?_append, slL_len h]
theorem act43 (h : x.dig.length = 32) : (actV kd x v a n m s)[43]? = some (.string s) := by
  simp [actV, List.getElem?_append, slL_len h]
end
section
variable {ops : Array Oper} {rest : List Oper} {o : Oper} {a : Act} {w : World} {Q : Exit → Act → World → Prop} {y z : Operand} {x : Sp} {b : Option Addr} {len cap : Nat}
end

/-! ### great -/
def greatS (x : Sp) : Bool := decide (500 < x.repo.size) || (decide (500 < x.tag.size) || decide (500 < x.ty.size))
def greatA (xs : List Sp) (s : ByteArray) (x : Sp) : Bool := decide (20 < xs.length) || (decide (500 < s.size) || (greatS x || xs.any greatS))
theorem greatS_no {x : Sp} (h1 : ¬ 500 < x.repo.size) (h2 : ¬ 500 < x.tag.size) (h3 : ¬ 500 < x.ty.size) : greatS x = false := by simp [greatS, h1, h2, h3]
theorem greatS_yes {x : Sp} (h : 500 < x.repo.size ∨ 500 < x.tag.size ∨ 500 < x.ty.size) : greatS x = true := by
  unfold greatS
  simp only [Bool.or_eq_true, decide_eq_true_eq]
  exact h
theorem any_snoc {xs : List Sp} {k : Nat} {y : Sp} (h : xs[k]? = some y) (hy : greatS y = false) (hc : ∀ z ∈ xs.take k, greatS z = false) : ∀ z ∈ xs.take (k + 1), greatS z = false := by
  intro z hz
  rw [List.take_add_one, h] at hz
  rcases List.mem_append.1 hz with c | c
  · exact hc z c
  · simp at c; subst c; exact hy
set_option maxHeartbeats 4000000 in
theorem great_any {xs : List Sp} {v : Value} {w : World} (hv : SlsAt w v xs) (hl : xs.length ≤ 9223372036854775807) (kd a n m : Int) (s : ByteArray) (hs : s.size ≤ 9223372036854775807) (x : Sp) (ok : Okay x) :
    Calls Tryz.prog 9 #[.agg (actV kd x v a n m s)] w fun e w' => e = .returned (.bool (greatA xs s x)) ∧ Below w.heap.size w w' := by
  have X := At.new w 41 (actV kd x v a n m s)
  have F : Below w.heap.size w (w.alloc (.cells (actV kd x v a n m s) 41)) := (Below.refl _ _).alloc (Nat.le_refl _) _
  have z1 := ok.repo; have z2 := ok.tag; have z3 := ok.ty; have hd := ok.dig.len
  replace hv := hv.below F
  obtain ⟨b1, cap1, rfl, hcap, hcell⟩ := hv.is
  have OKL := Lib.hid hv.ok
  have HC := Lib.hid hcell
  clear hv hcell
  obtain ⟨n1, hn1⟩ : ∃ n1, n1 = xs.length := ⟨_, rfl⟩
  obtain ⟨r, hr⟩ : ∃ r, greatA xs s x = r := ⟨_, rfl⟩
  rw [hr]
  unfold greatA at hr
  rw [← hn1] at X F HC hr hl hcap ⊢
  have HR := Lib.hid hr
  have HN1 := Lib.hid hn1
  clear hr hn1
  go_enter Tryz.func9, Tryz.ntmps9
  go_upto_region 1 with (fail)
  generalize w.alloc (.cells (actV kd x (.slice b1 n1 cap1) a n m s) 41) = w1 at X F HC ⊢
  generalize hB : w.heap.size = B at X ⊢
  have c2 : w1.cell? ⟨B, 2, none⟩ = some (.string x.repo) := X.cell 2
  have c3 : w1.cell? ⟨B, 3, none⟩ = some (.string x.tag) := X.cell 3
  have c36 : w1.cell? ⟨B, 36, none⟩ = some (.string x.ty) := (X.cell 36).trans (act36 hd)
  have c39 : w1.cell? ⟨B, 39, none⟩ = some (.slice b1 n1 cap1) := (X.cell 39).trans (act39 hd)
  have c43 : w1.cell? ⟨B, 43, none⟩ = some (.string s) := (X.cell 43).trans (act43 hd)
  clear hB X
  by_cases h0 : 20 < n1
  · have l0 : (20 : Int) < (n1 : Int) := by omega
    have e : r = true := by rw [← HR.out]; simp [h0]
    subst e
    go_wp2
    go_ret
    exact ⟨rfl, F⟩
  have l0 : ¬ (20 : Int) < (n1 : Int) := by omega
  by_cases h1 : 500 < s.size
  · have l1 : (500 : Int) < (s.size : Int) := by omega
    have e : r = true := by rw [← HR.out]; simp [h1]
    subst e
    go_wp2
    go_ret
    exact ⟨rfl, F⟩
  have l1 : ¬ (500 : Int) < (s.size : Int) := by omega
  by_cases h2 : 500 < x.repo.size
  · have l2 : (500 : Int) < (x.repo.size : Int) := by omega
    have e : r = true := by rw [← HR.out, greatS_yes (.inl h2)]; simp
    subst e
    go_wp2
    go_ret
    exact ⟨rfl, F⟩
  have l2 : ¬ (500 : Int) < (x.repo.size : Int) := by omega
  by_cases h3 : 500 < x.tag.size
  · have l3 : (500 : Int) < (x.tag.size : Int) := by omega
    have e : r = true := by rw [← HR.out, greatS_yes (.inr (.inl h3))]; simp
    subst e
    go_wp2
    go_ret
    exact ⟨rfl, F⟩
  have l3 : ¬ (500 : Int) < (x.tag.size : Int) := by omega
  by_cases h4 : 500 < x.ty.size
  · have l4 : (500 : Int) < (x.ty.size : Int) := by omega
    have e : r = true := by rw [← HR.out, greatS_yes (.inr (.inr h4))]; simp
    subst e
    go_wp2
    go_ret
    exact ⟨rfl, F⟩
  have l4 : ¬ (500 : Int) < (x.ty.size : Int) := by omega
  have HR2 : Hid (xs.any greatS = r) := Lib.hid (by
    have := HR.out
    rw [greatS_no h2 h3 h4, decide_eq_false h0, decide_eq_false h1] at this
    simpa using this)
  clear HR h1 h2 h3 h4
  go_wp2
  go_loopw [3] (fun i wr => ∃ k : Nat, w1 = wr ∧ k ≤ n1 ∧ i = .int .i64 k ∧ ∀ z ∈ xs.take k, greatS z = false) (fun i _ => n1 - (intOf i).toNat)
  case atStart => exact ⟨0, rfl, Nat.zero_le _, rfl, by simp⟩
  case round =>
    obtain ⟨k, rfl, hk, rfl, hall⟩ := hrel
    by_cases hlt : k < n1
    · obtain ⟨y, hy⟩ : ∃ y, xs[k]? = some y := ⟨xs[k]'(by have := HN1.out; omega), List.getElem?_eq_getElem _⟩
      have yok := OKL.out y (List.mem_of_getElem? hy)
      obtain ⟨a1, rfl, _, hc⟩ := HC.out k y hy
      have d1 : w1.cell? ⟨(a1.add (k * 38)).block, (a1.add (k * 38)).off + 1, none⟩ = some (.string y.repo) := hc 1 _ (sl1 y)
      have d2 : w1.cell? ⟨(a1.add (k * 38)).block, (a1.add (k * 38)).off + 2, none⟩ = some (.string y.tag) := hc 2 _ (sl2 y)
      have d35 : w1.cell? ⟨(a1.add (k * 38)).block, (a1.add (k * 38)).off + 35, none⟩ = some (.string y.ty) := hc 35 _ (sl35 yok.dig.len)
      clear hc
      have z1 := yok.repo; have z2 := yok.tag; have z3 := yok.ty
      have HY := Lib.hid hy
      have HA := Lib.hid hall
      clear hy hall yok
      have lk : (k : Int) < (n1 : Int) := by omega
      by_cases h2 : 500 < y.repo.size
      · have l2 : (500 : Int) < (y.repo.size : Int) := by omega
        have e : r = true := by rw [← HR2.out, List.any_eq_true]; exact ⟨y, List.mem_of_getElem? HY.out, greatS_yes (.inl h2)⟩
        subst e
        go_wp2
        go_ret
        exact ⟨rfl, F⟩
      have l2 : ¬ (500 : Int) < (y.repo.size : Int) := by omega
      by_cases h3 : 500 < y.tag.size
      · have l3 : (500 : Int) < (y.tag.size : Int) := by omega
        have e : r = true := by rw [← HR2.out, List.any_eq_true]; exact ⟨y, List.mem_of_getElem? HY.out, greatS_yes (.inr (.inl h3))⟩
        subst e
        go_wp2
        go_ret
        exact ⟨rfl, F⟩
      have l3 : ¬ (500 : Int) < (y.tag.size : Int) := by omega
      by_cases h4 : 500 < y.ty.size
      · have l4 : (500 : Int) < (y.ty.size : Int) := by omega
        have e : r = true := by rw [← HR2.out, List.any_eq_true]; exact ⟨y, List.mem_of_getElem? HY.out, greatS_yes (.inr (.inr h4))⟩
        subst e
        go_wp2
        go_ret
        exact ⟨rfl, F⟩
      have l4 : ¬ (500 : Int) < (y.ty.size : Int) := by omega
      go_wp2
      go_roundw
      case rel => exact ⟨k + 1, trivial, by omega, by go_num, any_snoc HY.out (greatS_no h2 h3 h4) HA.out⟩
      case measure => simp [intOf]; omega
    · obtain rfl : k = n1 := by omega
      have e : r = false := by
        rw [← HR2.out, List.any_eq_false]
        intro z hz
        rw [hall z (by rw [List.take_of_length_le (by have := HN1.out; omega)]; exact hz)]
        simp
      subst e
      have lk : ¬ (k : Int) < (k : Int) := by omega
      go_wp2
      go_ret
      exact ⟨rfl, F⟩
end Go.Proofs.YtdmgobffhpgjlaaGreat.Sl.Dg
