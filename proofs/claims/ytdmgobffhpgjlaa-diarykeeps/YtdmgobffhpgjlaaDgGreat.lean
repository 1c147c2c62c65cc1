/-
  Acts of the laws: how they are made, and whether one is more than is asked.
-/
import Derived.Test.YtdmgobffhpgjlaaDgFirst
import Derived.Test.YtdmgobffhpgjlaaSlOpen
namespace Go.Proofs.Ytdmgobffhpgjlaa.Sl.Dg
open Go.RowKit Go.PlainAid Go.Proofs.Ytdmgobffhpgjlaa.Cr
set_option linter.unusedVariables false
set_option maxRecDepth 20000
set_option linter.unusedSimpArgs false

theorem dig32 {d : List Nat} (h : d.length = 32) : ∃ a0 a1 a2 a3 a4 a5 a6 a7 a8 a9 a10 a11 a12 a13 a14 a15 a16 a17 a18 a19 a20 a21 a22 a23 a24 a25 a26 a27 a28 a29 a30 a31 : Nat, d = [a0, a1, a2, a3, a4, a5, a6, a7, a8, a9, a10, a11, a12, a13, a14, a15, a16, a17, a18, a19, a20, a21, a22, a23, a24, a25, a26, a27, a28, a29, a30, a31] := by
  obtain ⟨a0, d0, rfl⟩ := List.exists_cons_of_length_eq_add_one h
  have h1 : d0.length = 31 := by simpa using h
  obtain ⟨a1, d1, rfl⟩ := List.exists_cons_of_length_eq_add_one h1
  have h2 : d1.length = 30 := by simpa using h1
  obtain ⟨a2, d2, rfl⟩ := List.exists_cons_of_length_eq_add_one h2
  have h3 : d2.length = 29 := by simpa using h2
  obtain ⟨a3, d3, rfl⟩ := List.exists_cons_of_length_eq_add_one h3
  have h4 : d3.length = 28 := by simpa using h3
  obtain ⟨a4, d4, rfl⟩ := List.exists_cons_of_length_eq_add_one h4
  have h5 : d4.length = 27 := by simpa using h4
  obtain ⟨a5, d5, rfl⟩ := List.exists_cons_of_length_eq_add_one h5
  have h6 : d5.length = 26 := by simpa using h5
  obtain ⟨a6, d6, rfl⟩ := List.exists_cons_of_length_eq_add_one h6
  have h7 : d6.length = 25 := by simpa using h6
  obtain ⟨a7, d7, rfl⟩ := List.exists_cons_of_length_eq_add_one h7
  have h8 : d7.length = 24 := by simpa using h7
  obtain ⟨a8, d8, rfl⟩ := List.exists_cons_of_length_eq_add_one h8
  have h9 : d8.length = 23 := by simpa using h8
  obtain ⟨a9, d9, rfl⟩ := List.exists_cons_of_length_eq_add_one h9
  have h10 : d9.length = 22 := by simpa using h9
  obtain ⟨a10, d10, rfl⟩ := List.exists_cons_of_length_eq_add_one h10
  have h11 : d10.length = 21 := by simpa using h10
  obtain ⟨a11, d11, rfl⟩ := List.exists_cons_of_length_eq_add_one h11
  have h12 : d11.length = 20 := by simpa using h11
  obtain ⟨a12, d12, rfl⟩ := List.exists_cons_of_length_eq_add_one h12
  have h13 : d12.length = 19 := by simpa using h12
  obtain ⟨a13, d13, rfl⟩ := List.exists_cons_of_length_eq_add_one h13
  have h14 : d13.length = 18 := by simpa using h13
  obtain ⟨a14, d14, rfl⟩ := List.exists_cons_of_length_eq_add_one h14
  have h15 : d14.length = 17 := by simpa using h14
  obtain ⟨a15, d15, rfl⟩ := List.exists_cons_of_length_eq_add_one h15
  have h16 : d15.length = 16 := by simpa using h15
  obtain ⟨a16, d16, rfl⟩ := List.exists_cons_of_length_eq_add_one h16
  have h17 : d16.length = 15 := by simpa using h16
  obtain ⟨a17, d17, rfl⟩ := List.exists_cons_of_length_eq_add_one h17
  have h18 : d17.length = 14 := by simpa using h17
  obtain ⟨a18, d18, rfl⟩ := List.exists_cons_of_length_eq_add_one h18
  have h19 : d18.length = 13 := by simpa using h18
  obtain ⟨a19, d19, rfl⟩ := List.exists_cons_of_length_eq_add_one h19
  have h20 : d19.length = 12 := by simpa using h19
  obtain ⟨a20, d20, rfl⟩ := List.exists_cons_of_length_eq_add_one h20
  have h21 : d20.length = 11 := by simpa using h20
  obtain ⟨a21, d21, rfl⟩ := List.exists_cons_of_length_eq_add_one h21
  have h22 : d21.length = 10 := by simpa using h21
  obtain ⟨a22, d22, rfl⟩ := List.exists_cons_of_length_eq_add_one h22
  have h23 : d22.length = 9 := by simpa using h22
  obtain ⟨a23, d23, rfl⟩ := List.exists_cons_of_length_eq_add_one h23
  have h24 : d23.length = 8 := by simpa using h23
  obtain ⟨a24, d24, rfl⟩ := List.exists_cons_of_length_eq_add_one h24
  have h25 : d24.length = 7 := by simpa using h24
  obtain ⟨a25, d25, rfl⟩ := List.exists_cons_of_length_eq_add_one h25
  have h26 : d25.length = 6 := by simpa using h25
  obtain ⟨a26, d26, rfl⟩ := List.exists_cons_of_length_eq_add_one h26
  have h27 : d26.length = 5 := by simpa using h26
  obtain ⟨a27, d27, rfl⟩ := List.exists_cons_of_length_eq_add_one h27
  have h28 : d27.length = 4 := by simpa using h27
  obtain ⟨a28, d28, rfl⟩ := List.exists_cons_of_length_eq_add_one h28
  have h29 : d28.length = 3 := by simpa using h28
  obtain ⟨a29, d29, rfl⟩ := List.exists_cons_of_length_eq_add_one h29
  have h30 : d29.length = 2 := by simpa using h29
  obtain ⟨a30, d30, rfl⟩ := List.exists_cons_of_length_eq_add_one h30
  have h31 : d30.length = 1 := by simpa using h30
  obtain ⟨a31, d31, rfl⟩ := List.exists_cons_of_length_eq_add_one h31
  have h32 : d31.length = 0 := by simpa using h31
  obtain rfl : d31 = [] := List.eq_nil_of_length_eq_zero h32
  exact ⟨a0, a1, a2, a3, a4, a5, a6, a7, a8, a9, a10, a11, a12, a13, a14, a15, a16, a17, a18, a19, a20, a21, a22, a23, a24, a25, a26, a27, a28, a29, a30, a31, rfl⟩
def actV (kd : Int) (x : Sp) (v : Value) (a n m : Int) (s : ByteArray) : Array Value := ([Value.int .i64 kd] ++ (slL x ++ [v, .int .i64 a, .int .i64 n, .int .i64 m, .string s])).toArray
theorem act_size {kd : Int} {x : Sp} {v : Value} {a n m : Int} {s : ByteArray} (h : x.dig.length = 32) : (actV kd x v a n m s).size = 44 := by simp [actV, slL_len h]
section
variable {kd : Int} {x : Sp} {v : Value} {a n m : Int} {s : ByteArray}
theorem act2 : (actV kd x v a n m s)[2]? = some (.string x.repo) := rfl
theorem act3 : (actV kd x v a n m s)[3]? = some (.string x.tag) := rfl
theorem act36 (h : x.dig.length = 32) : (actV kd x v a n m s)[36]? = some (.string x.ty) := by
  simp [actV, slL, List.getElem?_append, dV_len, h]
theorem act39 (h : x.dig.length = 32) : (actV kd x v a n m s)[39]? = some v := by
  simp [actV, List.getElem?_append, slL_len h]
theorem act43 (h : x.dig.length = 32) : (actV kd x v a n m s)[43]? = some (.string s) := by
  simp [actV, List.getElem?_append, slL_len h]
end
theorem built_x {x : Sp} (h : x.dig.length = 32) : Try.prog.built 39 [(1, .agg (slV x))] = some (actV 0 x (.slice none 0 0) 0 0 0 ⟨#[]⟩) := by
  obtain ⟨k, repo, tag, dig, ty, sz, tm⟩ := x
  obtain ⟨a0, a1, a2, a3, a4, a5, a6, a7, a8, a9, a10, a11, a12, a13, a14, a15, a16, a17, a18, a19, a20, a21, a22, a23, a24, a25, a26, a27, a28, a29, a30, a31, rfl⟩ := dig32 h
  kernel_rfl
theorem built_l (b : Option Addr) (len cap : Nat) : Try.prog.built 39 [(2, .slice b len cap)] = some (actV 0 Sp.zero (.slice b len cap) 0 0 0 ⟨#[]⟩) := by
  kernel_rfl
theorem built_lx {x : Sp} (h : x.dig.length = 32) (b : Option Addr) (len cap : Nat) : Try.prog.built 39 [(2, .slice b len cap), (1, .agg (slV x))] = some (actV 0 x (.slice b len cap) 0 0 0 ⟨#[]⟩) := by
  obtain ⟨k, repo, tag, dig, ty, sz, tm⟩ := x
  obtain ⟨a0, a1, a2, a3, a4, a5, a6, a7, a8, a9, a10, a11, a12, a13, a14, a15, a16, a17, a18, a19, a20, a21, a22, a23, a24, a25, a26, a27, a28, a29, a30, a31, rfl⟩ := dig32 h
  kernel_rfl
section
variable {ops : Array Oper} {rest : List Oper} {o : Oper} {a : Act} {w : World} {Q : Exit → Act → World → Prop} {y z : Operand} {x : Sp} {b : Option Addr} {len cap : Nat}
theorem wpl_act_x (hd : x.dig.length = 32) (hw : Region.wanted o (yielded ops a.tmps) = true) (ho : o.op = .build 39 #[(1, y)]) (hy : a.eval y = .agg (slV x)) (h : wpList Try.prog ops Q rest (a.put o.dst (.agg (actV 0 x (.slice none 0 0) 0 0 0 ⟨#[]⟩))) w) : wpList Try.prog ops Q (o :: rest) a w := by
  refine wpList_step fun K hK => ?_
  rw [if_pos hw]
  have e : Try.prog.built 39 ((#[(1, y)] : Array (Nat × Operand)).map fun (i, x) => (i, a.eval x)).toList = some (actV 0 x (.slice none 0 0) 0 0 0 ⟨#[]⟩) := by simp only [List.map_toArray, List.map_cons, List.map_nil, hy]; exact built_x hd
  refine wp_build 39 #[(1, y)] ho (by rw [e]; rfl) ?_
  rw [e]
  exact hK _ _ h
theorem wpl_act_l (hw : Region.wanted o (yielded ops a.tmps) = true) (ho : o.op = .build 39 #[(2, y)]) (hy : a.eval y = .slice b len cap) (h : wpList Try.prog ops Q rest (a.put o.dst (.agg (actV 0 Sp.zero (.slice b len cap) 0 0 0 ⟨#[]⟩))) w) : wpList Try.prog ops Q (o :: rest) a w := by
  refine wpList_step fun K hK => ?_
  rw [if_pos hw]
  have e : Try.prog.built 39 ((#[(2, y)] : Array (Nat × Operand)).map fun (i, x) => (i, a.eval x)).toList = some (actV 0 Sp.zero (.slice b len cap) 0 0 0 ⟨#[]⟩) := by simp only [List.map_toArray, List.map_cons, List.map_nil, hy]; exact built_l b len cap
  refine wp_build 39 #[(2, y)] ho (by rw [e]; rfl) ?_
  rw [e]
  exact hK _ _ h
theorem wpl_act_lx (hd : x.dig.length = 32) (hw : Region.wanted o (yielded ops a.tmps) = true) (ho : o.op = .build 39 #[(2, z), (1, y)]) (hz : a.eval z = .slice b len cap) (hy : a.eval y = .agg (slV x)) (h : wpList Try.prog ops Q rest (a.put o.dst (.agg (actV 0 x (.slice b len cap) 0 0 0 ⟨#[]⟩))) w) : wpList Try.prog ops Q (o :: rest) a w := by
  refine wpList_step fun K hK => ?_
  rw [if_pos hw]
  have e : Try.prog.built 39 ((#[(2, z), (1, y)] : Array (Nat × Operand)).map fun (i, x) => (i, a.eval x)).toList = some (actV 0 x (.slice b len cap) 0 0 0 ⟨#[]⟩) := by simp only [List.map_toArray, List.map_cons, List.map_nil, hy, hz]; exact built_lx hd b len cap
  refine wp_build 39 #[(2, z), (1, y)] ho (by rw [e]; rfl) ?_
  rw [e]
  exact hK _ _ h
end

/-! ### great -/
def greatS (x : Sp) : Bool := decide (500 < x.repo.size) || (decide (500 < x.tag.size) || decide (500 < x.ty.size))
def greatA (xs : List Sp) (s : ByteArray) (x : Sp) : Bool := decide (20 < xs.length) || (decide (500 < s.size) || (greatS x || xs.any greatS))
theorem greatS_no {x : Sp} (h1 : ¬ 500 < x.repo.size) (h2 : ¬ 500 < x.tag.size) (h3 : ¬ 500 < x.ty.size) : greatS x = false := by simp [greatS, h1, h2, h3]
theorem greatS_yes {x : Sp} (h : 500 < x.repo.size ∨ 500 < x.tag.size ∨ 500 < x.ty.size) : greatS x = true := by
  unfold greatS
  simp only [Bool.or_eq_true, decide_eq_true_eq]
  exact h
theorem any_snoc {xs : List Sp} {k : Nat} {y : Sp} (h : xs[k]? = some y) (hy : greatS y = false) (hc : ∀ z ∈ xs.take k, greatS z = false) : ∀ z ∈ xs.take (k + 1), greatS z = false := by
  intro z hz
  rw [List.take_add_one, h] at hz
  rcases List.mem_append.1 hz with c | c
  · exact hc z c
  · simp at c; subst c; exact hy
set_option maxHeartbeats 4000000 in
theorem great_any {xs : List Sp} {v : Value} {w : World} (hv : SlsAt w v xs) (hl : xs.length ≤ 9223372036854775807) (kd a n m : Int) (s : ByteArray) (hs : s.size ≤ 9223372036854775807) (x : Sp) (ok : Okay x) :
    Calls Try.prog 10 #[.agg (actV kd x v a n m s)] w fun e w' => e = .returned (.bool (greatA xs s x)) ∧ Below w.heap.size w w' := by
  have X := At.new w 39 (actV kd x v a n m s)
  have F : Below w.heap.size w (w.alloc (.cells (actV kd x v a n m s) 39)) := (Below.refl _ _).alloc (Nat.le_refl _) _
  have z1 := ok.repo; have z2 := ok.tag; have z3 := ok.ty; have hd := ok.dig.len
  replace hv := hv.below F
  obtain ⟨b1, cap1, rfl, hcap, hcell⟩ := hv.is
  have OKL := Lib.hid hv.ok
  have HC := Lib.hid hcell
  clear hv hcell
  obtain ⟨n1, hn1⟩ : ∃ n1, n1 = xs.length := ⟨_, rfl⟩
  obtain ⟨r, hr⟩ : ∃ r, greatA xs s x = r := ⟨_, rfl⟩
  rw [hr]
  unfold greatA at hr
  rw [← hn1] at X F HC hr hl hcap ⊢
  have HR := Lib.hid hr
  have HN1 := Lib.hid hn1
  clear hr hn1
  go_enter Try.func10, Try.ntmps10
  go_upto_region 1 with (fail)
  generalize w.alloc (.cells (actV kd x (.slice b1 n1 cap1) a n m s) 39) = w1 at X F HC ⊢
  generalize hB : w.heap.size = B at X ⊢
  have c2 : w1.cell? ⟨B, 2, none⟩ = some (.string x.repo) := X.cell 2
  have c3 : w1.cell? ⟨B, 3, none⟩ = some (.string x.tag) := X.cell 3
  have c36 : w1.cell? ⟨B, 36, none⟩ = some (.string x.ty) := (X.cell 36).trans (act36 hd)
  have c39 : w1.cell? ⟨B, 39, none⟩ = some (.slice b1 n1 cap1) := (X.cell 39).trans (act39 hd)
  have c43 : w1.cell? ⟨B, 43, none⟩ = some (.string s) := (X.cell 43).trans (act43 hd)
  clear hB X
  by_cases h0 : 20 < n1
  · have l0 : (20 : Int) < (n1 : Int) := by omega
    have e : r = true := by rw [← HR.out]; simp [h0]
    subst e
    go_wp2
    go_ret
    exact ⟨rfl, F⟩
  have l0 : ¬ (20 : Int) < (n1 : Int) := by omega
  by_cases h1 : 500 < s.size
  · have l1 : (500 : Int) < (s.size : Int) := by omega
    have e : r = true := by rw [← HR.out]; simp [h1]
    subst e
    go_wp2
    go_ret
    exact ⟨rfl, F⟩
  have l1 : ¬ (500 : Int) < (s.size : Int) := by omega
  by_cases h2 : 500 < x.repo.size
  · have l2 : (500 : Int) < (x.repo.size : Int) := by omega
    have e : r = true := by rw [← HR.out, greatS_yes (.inl h2)]; simp
    subst e
    go_wp2
    go_ret
    exact ⟨rfl, F⟩
  have l2 : ¬ (500 : Int) < (x.repo.size : Int) := by omega
  by_cases h3 : 500 < x.tag.size
  · have l3 : (500 : Int) < (x.tag.size : Int) := by omega
    have e : r = true := by rw [← HR.out, greatS_yes (.inr (.inl h3))]; simp
    subst e
    go_wp2
    go_ret
    exact ⟨rfl, F⟩
  have l3 : ¬ (500 : Int) < (x.tag.size : Int) := by omega
  by_cases h4 : 500 < x.ty.size
  · have l4 : (500 : Int) < (x.ty.size : Int) := by omega
    have e : r = true := by rw [← HR.out, greatS_yes (.inr (.inr h4))]; simp
    subst e
    go_wp2
    go_ret
    exact ⟨rfl, F⟩
  have l4 : ¬ (500 : Int) < (x.ty.size : Int) := by omega
  have HR2 : Hid (xs.any greatS = r) := Lib.hid (by
    have := HR.out
    rw [greatS_no h2 h3 h4, decide_eq_false h0, decide_eq_false h1] at this
    simpa using this)
  clear HR h1 h2 h3 h4
  go_wp2
  go_loopw [3] (fun i wr => ∃ k : Nat, w1 = wr ∧ k ≤ n1 ∧ i = .int .i64 k ∧ ∀ z ∈ xs.take k, greatS z = false) (fun i _ => n1 - (intOf i).toNat)
  case atStart => exact ⟨0, rfl, Nat.zero_le _, rfl, by simp⟩
  case round =>
    obtain ⟨k, rfl, hk, rfl, hall⟩ := hrel
    by_cases hlt : k < n1
    · obtain ⟨y, hy⟩ : ∃ y, xs[k]? = some y := ⟨xs[k]'(by have := HN1.out; omega), List.getElem?_eq_getElem _⟩
      have yok := OKL.out y (List.mem_of_getElem? hy)
      obtain ⟨a1, rfl, _, hc⟩ := HC.out k y hy
      have d1 : w1.cell? ⟨(a1.add (k * 38)).block, (a1.add (k * 38)).off + 1, none⟩ = some (.string y.repo) := hc 1 _ (sl1 y)
      have d2 : w1.cell? ⟨(a1.add (k * 38)).block, (a1.add (k * 38)).off + 2, none⟩ = some (.string y.tag) := hc 2 _ (sl2 y)
      have d35 : w1.cell? ⟨(a1.add (k * 38)).block, (a1.add (k * 38)).off + 35, none⟩ = some (.string y.ty) := hc 35 _ (sl35 yok.dig.len)
      clear hc
      have z1 := yok.repo; have z2 := yok.tag; have z3 := yok.ty
      have HY := Lib.hid hy
      have HA := Lib.hid hall
      clear hy hall yok
      have lk : (k : Int) < (n1 : Int) := by omega
      by_cases h2 : 500 < y.repo.size
      · have l2 : (500 : Int) < (y.repo.size : Int) := by omega
        have e : r = true := by rw [← HR2.out, List.any_eq_true]; exact ⟨y, List.mem_of_getElem? HY.out, greatS_yes (.inl h2)⟩
        subst e
        go_wp2
        go_ret
        exact ⟨rfl, F⟩
      have l2 : ¬ (500 : Int) < (y.repo.size : Int) := by omega
      by_cases h3 : 500 < y.tag.size
      · have l3 : (500 : Int) < (y.tag.size : Int) := by omega
        have e : r = true := by rw [← HR2.out, List.any_eq_true]; exact ⟨y, List.mem_of_getElem? HY.out, greatS_yes (.inr (.inl h3))⟩
        subst e
        go_wp2
        go_ret
        exact ⟨rfl, F⟩
      have l3 : ¬ (500 : Int) < (y.tag.size : Int) := by omega
      by_cases h4 : 500 < y.ty.size
      · have l4 : (500 : Int) < (y.ty.size : Int) := by omega
        have e : r = true := by rw [← HR2.out, List.any_eq_true]; exact ⟨y, List.mem_of_getElem? HY.out, greatS_yes (.inr (.inr h4))⟩
        subst e
        go_wp2
        go_ret
        exact ⟨rfl, F⟩
      have l4 : ¬ (500 : Int) < (y.ty.size : Int) := by omega
      go_wp2
      go_roundw
      case rel => exact ⟨k + 1, trivial, by omega, by go_num, any_snoc HY.out (greatS_no h2 h3 h4) HA.out⟩
      case measure => simp [intOf]; omega
    · obtain rfl : k = n1 := by omega
      have e : r = false := by
        rw [← HR2.out, List.any_eq_false]
        intro z hz
        rw [hall z (by rw [List.take_of_length_le (by have := HN1.out; omega)]; exact hz)]
        simp
      subst e
      have lk : ¬ (k : Int) < (k : Int) := by omega
      go_wp2
      go_ret
      exact ⟨rfl, F⟩
end Go.Proofs.Ytdmgobffhpgjlaa.Sl.Dg
