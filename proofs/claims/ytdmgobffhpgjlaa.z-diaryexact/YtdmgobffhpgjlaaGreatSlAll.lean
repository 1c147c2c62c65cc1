/-
  Contract of All: the slips of records one behind the other.
-/
import Derived.Test.YtdmgobffhpgjlaaGreatSlD
import Derived.Test.YtdmgobffhpgjlaaGreatSlSame
import Derived.Great.BuildSlice

namespace Go.Proofs.YtdmgobffhpgjlaaGreat.Sl
open Go.RowKit Go.PlainAid Go.Proofs.YtdmgobffhpgjlaaGreat.Cr
set_option linter.unusedVariables false
set_option maxRecDepth 20000
set_option linter.unusedSimpArgs false

theorem infoSl : (Tryz.prog.info? 39).map (fun i => (i.zero, i.size, i.bytes)) = some (some (.agg #[.int .i64 0, .string ⟨#[]⟩, .string ⟨#[]⟩, .int .u8 0, .int .u8 0, .int .u8 0, .int .u8 0, .int .u8 0, .int .u8 0, .int .u8 0, .int .u8 0, .int .u8 0, .int .u8 0, .int .u8 0, .int .u8 0, .int .u8 0, .int .u8 0, .int .u8 0, .int .u8 0, .int .u8 0, .int .u8 0, .int .u8 0, .int .u8 0, .int .u8 0, .int .u8 0, .int .u8 0, .int .u8 0, .int .u8 0, .int .u8 0, .int .u8 0, .int .u8 0, .int .u8 0, .int .u8 0, .int .u8 0, .int .u8 0, .string ⟨#[]⟩, .int .i64 0, .int .i64 0]), 38, 104) := by kernel_rfl
theorem wpl_build {ops : Array Oper} {rest : List Oper} {o : Oper} {a : Act} {w : World} {Q : Exit → Act → World → Prop} {x : Operand} {cs : Array Value} (hs : cs.size = 38) (hg : o.guard = none) (ho : o.op = .buildSlice 29 1 #[(0, x)]) (hx : a.eval x = .agg cs)
    (h : wpList Tryz.prog ops Q rest (a.put o.dst (.slice (some ⟨w.heap.size, 0, none⟩) 1 1)) (w.alloc (.cells cs 39))) : wpList Tryz.prog ops Q (o :: rest) a w := by
  obtain ⟨i0, hi, hz0, hz1, hz2⟩ := info_parts infoSl
  refine wpList_buildSlice hg 29 39 1 #[(0, x)] ho cs i0 (.agg #[.int .i64 0, .string ⟨#[]⟩, .string ⟨#[]⟩, .int .u8 0, .int .u8 0, .int .u8 0, .int .u8 0, .int .u8 0, .int .u8 0, .int .u8 0, .int .u8 0, .int .u8 0, .int .u8 0, .int .u8 0, .int .u8 0, .int .u8 0, .int .u8 0, .int .u8 0, .int .u8 0, .int .u8 0, .int .u8 0, .int .u8 0, .int .u8 0, .int .u8 0, .int .u8 0, .int .u8 0, .int .u8 0, .int .u8 0, .int .u8 0, .int .u8 0, .int .u8 0, .int .u8 0, .int .u8 0, .int .u8 0, .int .u8 0, .string ⟨#[]⟩, .int .i64 0, .int .i64 0]) Tryz.underlying29 hi hz0 (by rw [hz1]; decide) (by rw [hz1]; decide) ?_ h
  rw [hz1]
  have e : (#[(0, x)].map fun (i, x) => (i, a.eval x)).toList = (([Value.agg cs].zipIdx 0).map fun x => (x.2, x.1)) := by
    simp [hx]
  rw [e, Great.fill_whole (s := 38) (by decide) [.agg cs] _ (by intro v hv; simp at hv; subst hv; exact hs) (by simp)]
  simp [Value.cells]
def slsL (xs : List Sp) : List Value := (xs.map slL).flatten
theorem slsL_snoc (xs : List Sp) (x : Sp) : slsL (xs ++ [x]) = slsL xs ++ slL x := by simp [slsL]
theorem owns_below {w w' : World} {B e sz : Nat} {v : Value} {n : Nat} {xs : List Value} (h : w.ownsRow B e sz v n xs) (hb : Below w.heap.size w w') : w'.ownsRow B e sz v n xs := by
  refine h.kept (row := none) ⟨hb.os, hb.tape, hb.output, hb.size, fun k hk _ => hb.block k hk⟩ ?_
  cases v.ownBlock <;> simp
theorem new_cells (w : World) (x : Sp) : ∀ j u, (slL x)[j]? = some u → (w.alloc (.cells (slV x) 39)).cell? ((⟨w.heap.size, 0, none⟩ : Addr).add j) = some u := by
  intro j u hj
  rw [add_at, Nat.zero_add, (At.new w _ _).cell]
  simpa [slV] using hj
theorem can_okay {x : Sp} (h : Can x) : Okay x := by
  have h1 := h.names_le
  have h2 := h.ty
  exact ⟨by omega, by omega, by omega, h.dig⟩
theorem rd_dig (l : List Nat) : (RD l).1.dig.length = 32 := by
  by_cases c : (RD l).2.2 = 0
  · exact (rd_ok c).1.dig.len
  · rw [(rd_err c).1]
    exact zeros_dig.len
theorem slsL_at : ∀ (xs : List Sp) (j i : Nat) (x : Sp) (c : Value), (∀ y ∈ xs, y.dig.length = 32) → xs[j]? = some x → (slL x)[i]? = some c → (slsL xs)[j * 38 + i]? = some c
  | [], j, i, x, c, _, h, _ => by simp at h
  | y :: xs, 0, i, x, c, hd, h, hi => by
    simp at h
    subst h
    have : i < (slL y).length := (List.getElem?_eq_some_iff.1 hi).1
    simp only [slsL, List.map_cons, List.flatten_cons, Nat.zero_mul, Nat.zero_add]
    rw [List.getElem?_append_left this]
    exact hi
  | y :: xs, j + 1, i, x, c, hd, h, hi => by
    have ih := slsL_at xs j i x c (fun z hz => hd z (by simp [hz])) (by simpa using h) hi
    have hl := slL_len (hd y (by simp))
    simp only [slsL, List.map_cons, List.flatten_cons]
    rw [List.getElem?_append_right (by rw [hl]; omega), hl, show (j + 1) * 38 + i - 38 = j * 38 + i by omega]
    exact ih
theorem owns_sls {w : World} {B : Nat} {v : Value} {xs : List Sp} (h : w.ownsRow B 39 38 v xs.length (slsL xs)) (ok : ∀ x ∈ xs, Okay x) : SlsAt w v xs := by
  rcases h.2 with ⟨rfl, h0⟩ | ⟨g, cap, cur, rfl, _, hg, hc, _⟩
  · have : xs = [] := List.eq_nil_of_length_eq_zero h0
    subst this
    exact none_sls w
  · refine ⟨⟨some ⟨g, 0, none⟩, cap, rfl, hc, fun j x hj => ⟨_, rfl, (Array.getElem?_eq_some_iff.1 hg).1, fun i c hi => ?_⟩⟩, ok⟩
    have := h.cells (g := g) rfl (j * 38 + i) c (slsL_at xs j i x c (fun y hy => (ok y hy).dig.len) hj (by simpa [slV] using hi))
    rw [add_at] at this ⊢
    rw [add_at]
    simpa using this
/-- what All has read up to k -/
structure AllInv (l : List Nat) (k : Nat) (xs : List Sp) : Prop where
  rest : ∀ ys m, Reads (l.drop k) ys m → Reads l (xs ++ ys) (k + m)
  can : ∀ x ∈ xs, Can x
theorem allInv_start (l : List Nat) : AllInv l 0 [] := ⟨fun ys m h => by simpa using h, by simp⟩
theorem AllInv.step {l : List Nat} {k : Nat} {xs : List Sp} (h : AllInv l k xs) (c : (RD (l.drop k)).2.2 = 0) : ∀ n : Nat, (RD (l.drop k)).2.1 = (n : Int) → AllInv l (k + n) (xs ++ [(RD (l.drop k)).1]) := by
  intro n hn
  refine ⟨fun ys m hr => ?_, fun x hx => ?_⟩
  · have hm := Reads.more (l := l.drop k) (xs := ys) (m := m) c (by rw [hn, Int.toNat_natCast, List.drop_drop]; exact hr)
    have := h.rest _ _ hm
    rw [hn, Int.toNat_natCast] at this
    rw [List.append_assoc, List.singleton_append, Nat.add_assoc]
    exact this
  · rcases List.mem_append.1 hx with hx | hx
    · exact h.can x hx
    · simp at hx
      subst hx
      exact (rd_ok c).1
theorem AllInv.stop {l : List Nat} {k : Nat} {xs : List Sp} (h : AllInv l k xs) (c : (RD (l.drop k)).2.2 ≠ 0) : Reads l xs k ∧ ∀ x ∈ xs, Okay x := by
  have := h.rest [] 0 (.stop c)
  simp only [List.append_nil, Nat.add_zero] at this
  exact ⟨this, fun x hx => can_okay (h.can x hx)⟩
def AllOwn (l : List Nat) (w : World) (e : Ending) (w' : World) : Prop := ∃ (xs : List Sp) (n : Nat) (v : Value), e = .returned (.tuple #[v, .int .i64 (n : Int)]) ∧ w'.ownsRow w.heap.size 39 38 v xs.length (slsL xs) ∧ (∀ x ∈ xs, Okay x) ∧ Reads l xs n ∧ Below w.heap.size w w'
set_option maxHeartbeats 2000000 in
theorem all_own (s : ByteArray) (w : World) (hs : s.size ≤ 1073741824) :
    Calls Tryz.prog 37 #[.string s] w fun e w' => AllOwn (bl s) w e w' := by
  obtain ⟨i0, hi, hz0, hz1, hz2⟩ := info_parts infoSl
  have hbl := bl_len s
  go_enter Tryz.func37, Tryz.ntmps37
  have own0 : w.ownsRow w.heap.size 39 38 (.slice none 0 0) 0 [] := World.ownsRow_nil _ _ _ _
  have bel0 := Below.refl w.heap.size w
  go_wp2
  go_loopw [4, 5] (fun v i wr => ∃ (k : Nat) (xs : List Sp), k ≤ s.size ∧ i = .int .i64 k ∧ wr.ownsRow w.heap.size 39 38 v xs.length (slsL xs) ∧ Below w.heap.size w wr ∧ 6 * xs.length ≤ k ∧ AllInv (bl s) k xs) (fun _ i _ => s.size - (intOf i).toNat)
  case atStart => exact ⟨0, [], Nat.zero_le _, rfl, own0, bel0, Nat.le_refl _, allInv_start _⟩
  case round =>
    clear own0 bel0
    obtain ⟨k, xs, hk, rfl, own, bel, h6, INV⟩ := hrel
    have l1 : (k : Int) ≤ (s.size : Int) := by omega
    have l2 : (0 : Int) ≤ (k : Int) := by omega
    have hd : bl (s.extract k s.size) = (bl s).drop k := by
      rw [bl_extract]
      exact List.take_of_length_le (by rw [List.length_drop]; omega)
    have hz : (s.extract k s.size).size ≤ 1099511627776 := by rw [ByteArray.size_extract]; omega
    go_wp2_with fail
    refine (read_any (s.extract k s.size) _ hz).mono ?_
    rintro e w2 ⟨rfl, G⟩
    rw [hd]
    clear hd hz
    have own2 := owns_below own G
    have bel2 := bel.trans (G.mono bel.size)
    clear own G bel
    have zdl : (RD ((bl s).drop k)).1.dig.length = 32 := rd_dig _
    obtain ⟨w3, S3, X3, G3, Z3⟩ := x_keep w2 zdl
    have own3 := owns_below own2 G3
    have bel3 := bel2.trans (G3.mono bel2.size)
    have LX := sl_loads X3 zdl
    have hN := bel3.size
    clear own2 bel2 G3 Z3
    by_cases c : (RD ((bl s).drop k)).2.2 = 0
    · obtain ⟨can, n, hn, hn6, hnl⟩ := rd_ok c
      rw [List.length_drop, hbl] at hnl
      have STEP := Lib.hid (INV.step c)
      rw [hn] at STEP ⊢
      rw [c]
      clear c
      have CAN := Lib.hid can
      clear can
      generalize hx : (RD ((bl s).drop k)).1 = x at S3 X3 LX STEP CAN zdl ⊢
      clear hx hn
      go_upto_region 6 with (refine wpl_store S3 rfl rfl rfl rfl rfl ?_)
      clear S3
      generalize w2.heap.size = X at X3 LX ⊢
      go_upto_region 7 with (first | refine wpl_load LX rfl rfl rfl ?_ | refine wpl_build (slV_size zdl) rfl rfl rfl ?_ | (at_builtin; refine wpList_append_own _ rfl _ _ 29 rfl w.heap.size 39 i0 (.agg #[.int .i64 0, .string ⟨#[]⟩, .string ⟨#[]⟩, .int .u8 0, .int .u8 0, .int .u8 0, .int .u8 0, .int .u8 0, .int .u8 0, .int .u8 0, .int .u8 0, .int .u8 0, .int .u8 0, .int .u8 0, .int .u8 0, .int .u8 0, .int .u8 0, .int .u8 0, .int .u8 0, .int .u8 0, .int .u8 0, .int .u8 0, .int .u8 0, .int .u8 0, .int .u8 0, .int .u8 0, .int .u8 0, .int .u8 0, .int .u8 0, .int .u8 0, .int .u8 0, .int .u8 0, .int .u8 0, .int .u8 0, .int .u8 0, .string ⟨#[]⟩, .int .i64 0, .int .i64 0]) 38 104 Tryz.underlying29 hi hz0 hz1 hz2 rfl (by decide) _ _ _ rfl (own3.alloc _) ⟨w3.heap.size, 0, none⟩ 1 1 (slL x) rfl ?c0 ?c1 (slL_one x) ?c3 ?c4 ?c5 ?_))
      case c0 => rw [slL_len zdl]
      case c1 => exact new_cells w3 x
      case c3 => unfold maxLen; omega
      case c4 => omega
      case c5 => simp; omega
      intro v' w4 own4 hgrow _
      have own5 : w4.ownsRow w.heap.size 39 38 v' (xs ++ [x]).length (slsL (xs ++ [x])) := by
        rw [slsL_snoc, List.length_append]
        exact own4
      have bel5 := (bel3.alloc bel3.size (.cells (slV x) 39)).grown hgrow (by simp; omega) (fun j hj => (own3.lt j hj).1)
      clear own4 own3 bel3 hgrow LX X3
      go_wp2
      go_roundw
      case rel => exact ⟨k + n, xs ++ [x], by omega, by go_num, own5, bel5, by rw [List.length_append]; simp; omega, STEP.out n rfl⟩
      case measure => simp [intOf]; omega
    · obtain ⟨z1, z2, z3⟩ := rd_err c
      have FIN := Lib.hid (INV.stop c)
      have hne : ((RD ((bl s).drop k)).2.2 != 0) = true := by simpa using c
      have hne2 : ¬ (RD ((bl s).drop k)).2.2 = 0 := c
      clear z1 z2 z3 c
      generalize (RD ((bl s).drop k)).2.2 = er at hne hne2 ⊢
      generalize (RD ((bl s).drop k)).2.1 = nn at ⊢
      generalize (RD ((bl s).drop k)).1 = x at S3 X3 LX ⊢
      go_wp2_with (refine wpl_store S3 rfl rfl rfl rfl rfl ?_)
      go_ret2
      exact ⟨xs, k, _, rfl, own3, FIN.out.2, FIN.out.1, bel3⟩
end Go.Proofs.YtdmgobffhpgjlaaGreat.Sl
