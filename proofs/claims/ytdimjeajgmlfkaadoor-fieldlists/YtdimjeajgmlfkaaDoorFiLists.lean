/-
  FieldLists, walked: of every fields what a name has, its lists' elements, their parameters, how a body is framed, and whether the connection ends.
-/
import Derived.Test.YtdimjeajgmlfkaaDoorFiRefE
import Derived.Test.YtdimjeajgmlfkaaDoorFiRefM
import Derived.Test.YtdimjeajgmlfkaaDoorFiRefF
import Derived.Test.YtdimjeajgmlfkaaDoorFiAwake
namespace Go.Proofs.YtdimjeajgmlfkaaDoor.Fi
open Go.RowKit Go.PlainAid
open Hx
set_option linter.unusedVariables false
set_option maxRecDepth 20000
set_option linter.unusedSimpArgs false

theorem parsF_len : ∀ (ps : List ByteArray) (acc l : List Fd), parsF ps acc = some l → l.length = acc.length + ps.length
  | [], acc, l, h => by
    have : some acc = some l := h
    injection this with e
    subst e; rfl
  | p :: ps, acc, l, h => by
    cases hp : parF (ls p) with
    | none => rw [parsF_none acc hp] at h; cases h
    | some f =>
      rw [parsF_some acc hp] at h
      have := parsF_len ps _ l h
      simp at this
      simp; omega
theorem pmF_len (s : ByteArray) : (pmF s).list.length ≤ s.size + 1 := by
  cases hq : parsF (fillF (((cutA 59 (ls s)).drop 1).map tx)) [] with
  | none => rw [pm_none hq]; exact Nat.zero_le _
  | some l =>
    rw [pm_some hq]
    have h1 := parsF_len _ _ _ hq
    have h2 : (fillF (((cutA 59 (ls s)).drop 1).map tx)).length ≤ (cutA 59 (ls s)).length := by
      unfold fillF
      refine Nat.le_trans (List.length_filter_le _ _) ?_
      rw [List.length_map, List.length_drop]; omega
    have h3 := (cutA_bound 59 (ls s)).1
    rw [ls_len] at h3
    rw [List.length_nil, Nat.zero_add] at h1
    show l.length ≤ _
    omega
structure LiJ (w0 z : World) (B : Nat) (p q : Int) : Prop where
  a : At z B 41 #[.int .i64 p, .int .i64 q]
  bel : Below w0.heap.size w0 z
theorem LiJ.below {w0 z y : World} {B : Nat} {p q : Int} (i : LiJ w0 z B p q) (hb : Below z.heap.size z y) : LiJ w0 y B p q := ⟨i.a.old hb, i.bel.trans (hb.mono i.bel.size)⟩
theorem LiJ.drew {w0 z : World} {B : Nat} {p q : Int} (i : LiJ w0 z B p q) : LiJ w0 z.drew B p q := i.below ((Below.refl _ _).drew)
theorem LiJ.c0 {w0 z : World} {B : Nat} {p q : Int} (i : LiJ w0 z B p q) : z.cell? ⟨B, 0, none⟩ = some (.int .i64 p) := i.a.cell 0
theorem LiJ.c1 {w0 z : World} {B : Nat} {p q : Int} (i : LiJ w0 z B p q) : z.cell? ⟨B, 1, none⟩ = some (.int .i64 q) := i.a.cell 1
theorem LiJ.new (w : World) (p q : Int) : LiJ w (w.alloc (.cells #[.int .i64 p, .int .i64 q] 41)) w.heap.size p q := ⟨At.new w _ _, (Below.refl _ _).alloc (Nat.le_refl _) _⟩
/-- the first k fields are short -/
def ShTo (xs : List Fd) (k : Nat) : Prop := ∀ x ∈ xs.take k, x.n.size ≤ 1024 ∧ x.v.size ≤ 1024
theorem ShTo.succ {xs : List Fd} {k : Nat} {x : Fd} (h : ShTo xs k) (hx : xs[k]? = some x) (h1 : x.n.size ≤ 1024) (h2 : x.v.size ≤ 1024) : ShTo xs (k + 1) := by
  intro y hy
  rw [List.take_add_one, hx, List.mem_append] at hy
  rcases hy with hy | hy
  · exact h y hy
  · simp at hy; subst hy; exact ⟨h1, h2⟩
theorem ShTo.short {xs : List Fd} {k : Nat} (h : ShTo xs k) (hk : xs.length ≤ k) (h60 : xs.length ≤ 60) : Short xs := by
  unfold ShTo at h
  rw [List.take_of_length_le hk] at h
  exact ⟨by omega, fun x hx => by have := (h x hx).1; omega, fun x hx => by have := (h x hx).2; omega⟩
theorem int_wf {a : Int} (h : (Lit.int .i64 a).wf = true) : -9223372036854775808 ≤ a ∧ a ≤ 9223372036854775807 := by
  simpa [Lit.wf, IntKind.min, IntKind.max, IntKind.signed, IntKind.bits] using h
theorem lists_big (w : World) (v : Value) (xs : List Fd) (name : ByteArray) (p q : Int) (hv : FdsAt w v xs) (hl : xs.length ≤ 9223372036854775807) (hz : name.size ≤ 9223372036854775807) (h : 60 < xs.length ∨ 1024 < name.size) :
    Calls Tryd.prog 5 #[v, .string name, .agg #[.int .i64 p, .int .i64 q]] w fun e w' => e = .returned (.bool true) ∧ Below w.heap.size w w' := by
  have J := LiJ.new w p q
  obtain ⟨base, cap, rfl, _, _⟩ := hv.is
  clear hv
  obtain ⟨n, hn⟩ : ∃ n, n = xs.length := ⟨_, rfl⟩
  rw [← hn] at h hl ⊢
  clear hn
  have hc : (60 : Int) < (n : Int) ∨ (¬ (60 : Int) < (n : Int) ∧ (1024 : Int) < (name.size : Int)) := by omega
  clear h
  rcases hc with d1 | ⟨d1, d2⟩
  all_goals
    go_enter Tryd.func5, Tryd.ntmps5
    go_upto_region 1 with (fail)
    generalize w.alloc (.cells #[.int .i64 p, .int .i64 q] 41) = X at J ⊢
    generalize w.heap.size = B at J ⊢
    go_wp2_with fail
    refine (awake_any _).mono ?_
    rintro e w1 ⟨rfl, F1⟩
    replace J := J.below F1
    clear F1
    go_wp2
    go_ret
    exact ⟨rfl, J.bel⟩
set_option maxRecDepth 200000 in
set_option maxHeartbeats 16000000 in
theorem lists_main (w : World) (v : Value) (xs : List Fd) (name : ByteArray) (p q : Int) (hv : FdsAt w v xs) (h60 : xs.length ≤ 60) (hz : name.size ≤ 1024) (hr : Reach xs) (p0 : -9223372036854775808 ≤ p) (p1 : p ≤ 9223372036854775807) (q0 : -9223372036854775808 ≤ q) (q1 : q ≤ 9223372036854775807) :
    Calls Tryd.prog 5 #[v, .string name, .agg #[.int .i64 p, .int .i64 q]] w fun e w' => e = .returned (.bool true) ∧ Below w.heap.size w w' := by
  have J := LiJ.new w p q
  obtain ⟨base, cap, rfl, _, _⟩ := hv.is
  have HV := Lib.hid hv
  have HR := Lib.hid hr
  clear hv hr
  obtain ⟨n, hn⟩ : ∃ n, n = xs.length := ⟨_, rfl⟩
  have hn60 : n ≤ 60 := by omega
  rw [← hn] at HV ⊢
  have HN := Lib.hid hn
  clear hn h60
  have d1 : ¬ (60 : Int) < (n : Int) := by omega
  have d2 : ¬ (1024 : Int) < (name.size : Int) := by omega
  have ST0 := Lib.hid (show ShTo xs 0 from fun x hx => by simp at hx)
  go_enter Tryd.func5, Tryd.ntmps5
  go_upto_region 1 with (fail)
  generalize w.alloc (.cells #[.int .i64 p, .int .i64 q] 41) = X at J ⊢
  generalize w.heap.size = B at J ⊢
  go_wp2_with fail
  refine (awake_any _).mono ?_
  rintro e w1 ⟨rfl, F1⟩
  replace J := J.below F1
  clear F1
  go_wp2
  go_loop [7] (fun i => ∃ k : Nat, k ≤ n ∧ i = .int .i64 k ∧ Hid (ShTo xs k)) (fun i => n - (intOf i).toNat)
  case atStart => exact ⟨0, Nat.zero_le _, rfl, ST0⟩
  case round =>
    clear ST0
    obtain ⟨k, hk, rfl, ST⟩ := hrel
    by_cases hlt : k < n
    · obtain ⟨x, hx⟩ : ∃ x, xs[k]? = some x := ⟨xs[k]'(by have := HN.out; omega), List.getElem?_eq_getElem _⟩
      obtain ⟨a, rfl, ha, _, c0, c1'⟩ := (HV.out.below J.bel).loads hx
      obtain ⟨r1, r2⟩ := HR.out x (List.mem_of_getElem? hx)
      have l1 : (k : Int) < (n : Int) := by omega
      have c1 : w1.cell? { (a.add (k * 2)) with off := (a.add (k * 2)).off + 1, spot := none } = some (.string x.v) := by rw [add_next]; exact c1'
      clear c1'
      have HX := Lib.hid hx
      clear hx
      have cs : (1024 : Int) < (x.n.size : Int) ∨ (¬ (1024 : Int) < (x.n.size : Int) ∧ (1024 : Int) < (x.v.size : Int)) ∨ (¬ (1024 : Int) < (x.n.size : Int) ∧ ¬ (1024 : Int) < (x.v.size : Int)) := by omega
      rcases cs with e1 | ⟨e1, e2⟩ | ⟨e1, e2⟩
      · go_wp2
        go_ret
        exact ⟨rfl, J.bel⟩
      · go_wp2
        go_ret
        exact ⟨rfl, J.bel⟩
      · have S2 := Lib.hid (ST.out.succ HX.out (by omega) (by omega))
        go_wp2
        go_round
        case rel => exact ⟨k + 1, by omega, by go_num, S2⟩
        case measure => simp [intOf]; omega
    · have l1 : ¬ (k : Int) < (n : Int) := by omega
      have SH := Lib.hid (ST.out.short (by have := HN.out; omega) (by have := HN.out; omega))
      clear ST d1 d2
      have g1 : ∀ z, Below w.heap.size w z → Calls Tryd.prog 21 #[.slice base n cap, .string name] z fun e w' => e = .returned (.tuple #[.string (getS (ls name) xs), .int .i64 (getN (ls name) xs)]) ∧ Below z.heap.size z w' := fun z hb => get_any name (HV.out.below hb) (by have := HN.out; omega) (by omega) HR.out
      have g2 : ∀ z, Below w.heap.size w z → Calls Tryd.prog 22 #[.slice base n cap, .string name] z fun e w' => e = .returned (.tuple #[.string (getS (ls name) xs), .int .i64 (getN (ls name) xs)]) ∧ Below z.heap.size z w' := fun z hb => refGet_any name (HV.out.below hb) (by have := HN.out; omega) (by omega) (fun x hx => by have := SH.out.n x hx; omega) (by omega)
      have el : ∀ z, Below w.heap.size w z → Calls Tryd.prog 23 #[.slice base n cap, .string name] z fun e w' => ∃ v', e = .returned v' ∧ OwnS z w' v' (elemsF (ls name) xs) := fun z hb => elements_any name (HV.out.below hb) (by omega) SH.out
      have re : ∀ z, Below w.heap.size w z → Calls Tryd.prog 27 #[.slice base n cap, .string name] z fun e w' => ∃ v', e = .returned v' ∧ OwnS z w' v' (elemsF (ls name) xs) := fun z hb => refElements_any name (HV.out.below hb) (by omega) SH.out
      have f1 : ∀ z, Below w.heap.size w z → Calls Tryd.prog 24 #[.slice base n cap, .int .i64 p] z fun e w' => e = .returned (.tuple #[.int .i64 (frF xs p).n, .bool (frF xs p).c, .int .i64 (frF xs p).e]) ∧ Below z.heap.size z w' := fun z hb => frame_any p (HV.out.below hb) (by have := HN.out; omega) HR.out p0 p1
      have f2 : ∀ z, Below w.heap.size w z → Calls Tryd.prog 25 #[.slice base n cap, .int .i64 p] z fun e w' => e = .returned (.tuple #[.int .i64 (frF xs p).n, .bool (frF xs p).c, .int .i64 (frF xs p).e]) ∧ Below z.heap.size z w' := fun z hb => refFrame_any p (HV.out.below hb) SH.out p0 p1
      have k1 : ∀ z, Below w.heap.size w z → Calls Tryd.prog 28 #[.slice base n cap, .int .i64 q] z fun e w' => e = .returned (.bool (closesF xs q)) ∧ Below z.heap.size z w' := fun z hb => closes_any q q0 q1 (HV.out.below hb) SH.out
      have k2 : ∀ z, Below w.heap.size w z → Calls Tryd.prog 29 #[.slice base n cap, .int .i64 q] z fun e w' => e = .returned (.bool (closesF xs q)) ∧ Below z.heap.size z w' := fun z hb => refCloses_any q q0 q1 (HV.out.below hb) SH.out
      have eb := (elemsF_bound (name := ls name) SH.out).1
      generalize getS (ls name) xs = GS at g1 g2
      generalize getN (ls name) xs = GN at g1 g2
      generalize elemsF (ls name) xs = E at el re eb
      generalize frF xs p = fr at f1 f2
      obtain ⟨fn, fc, fe⟩ := fr
      generalize closesF xs q = CL at k1 k2
      obtain ⟨ne, hne⟩ : ∃ ne, ne = E.length := ⟨_, rfl⟩
      have tt : ∀ (z : World) (b1 b2 : Option Addr) (c1 c2 : Nat), StrsAt z (.slice b1 ne c1) E → StrsAt z (.slice b2 ne c2) E → Calls Tryd.prog 26 #[.slice b1 ne c1, .slice b2 ne c2] z fun e w' => e = .returned (.bool true) ∧ Below z.heap.size z w' := fun z b1 b2 c1 c2 h1 h2 => by
        have := textsR_any h1 h2 (by omega) (by omega)
        rw [textB_yes rfl] at this
        exact this
      have HNE := Lib.hid hne
      clear hne eb
      go_wp2_with fail
      refine (g1 _ J.bel).mono ?_
      rintro e w2 ⟨rfl, G⟩
      replace J := J.below G
      clear G g1
      go_wp2_with fail
      refine (g2 _ J.bel).mono ?_
      rintro e w3 ⟨rfl, G⟩
      replace J := J.below G
      clear G g2
      go_wp2_with fail
      refine (el _ J.bel).mono ?_
      rintro e w4 ⟨v4, rfl, own4, G⟩
      replace J := J.below G
      rw [← HNE.out] at own4
      obtain ⟨b4, c4, rfl⟩ := own_shape own4
      have V4 : StrsAt w4 (.slice b4 ne c4) E := by rw [HNE.out] at own4 ⊢; exact owns_strs own4
      clear G el own4
      have cp := J.c0
      go_wp2_with fail
      refine (f1 _ J.bel).mono ?_
      rintro e w5 ⟨rfl, G⟩
      replace J := J.below G
      replace V4 := V4.below G
      clear G f1 cp
      have cp := J.c0
      go_wp2_with fail
      refine (f2 _ J.bel).mono ?_
      rintro e w6 ⟨rfl, G⟩
      replace J := J.below G
      replace V4 := V4.below G
      clear G f2 cp
      go_upto_region 15 with (fail)
      refine wp_region_held (S := fun z => LiJ w z B p q) (by kernel_rfl) ?_
      change wpAnyH _ _ _ _ _ _ _ _ w6.drew
      replace J := J.drew
      replace V4 := V4.below ((Below.refl _ _).drew)
      generalize w6.drew = w7 at J V4 ⊢
      refine held_take 0 (.string GS) rfl (by kernel_rfl) (by kernel_rfl) (by kernel_rfl) (fun _ _ _ h => h) (Or.inl ⟨by rfl, fun x j => by go_simp⟩) J (fun K hK => ?_)
      go_simp
      refine hK _ _ ?_
      clear hK K
      refine held_take 1 (.string GS) rfl (by kernel_rfl) (by kernel_rfl) (by kernel_rfl) (fun _ _ _ h => h) (Or.inl ⟨by rfl, fun x j => by go_simp⟩) J (fun K hK => ?_)
      go_simp
      refine hK _ _ ?_
      clear hK K
      refine held_take 2 (.bool false) rfl (by kernel_rfl) (by kernel_rfl) (by kernel_rfl) (fun _ _ _ h => h) (Or.inl ⟨by rfl, fun x j => by go_simp⟩) J (fun K hK => ?_)
      go_simp
      refine hK _ _ ?_
      clear hK K
      refine held_take 3 (.bool false) rfl (by kernel_rfl) (by kernel_rfl) (by kernel_rfl) (fun _ _ _ h => h) (Or.inl ⟨by rfl, fun x j => by go_simp⟩) J (fun K hK => ?_)
      go_simp
      refine hK _ _ ?_
      clear hK K
      refine held_take 4 (.int .i64 GN) rfl (by kernel_rfl) (by kernel_rfl) (by kernel_rfl) (fun _ _ _ h => h) (Or.inl ⟨by rfl, fun x j => by go_simp⟩) J (fun K hK => ?_)
      go_simp
      refine hK _ _ ?_
      clear hK K
      refine held_take 5 (.int .i64 GN) rfl (by kernel_rfl) (by kernel_rfl) (by kernel_rfl) (fun _ _ _ h => h) (Or.inl ⟨by rfl, fun x j => by go_simp⟩) J (fun K hK => ?_)
      go_simp
      refine hK _ _ ?_
      clear hK K
      refine held_take 6 (.bool false) rfl (by kernel_rfl) (by kernel_rfl) (by kernel_rfl) (fun _ _ _ h => h) (Or.inl ⟨by rfl, fun x j => by go_simp⟩) J (fun K hK => ?_)
      go_simp
      refine hK _ _ ?_
      clear hK K
      refine held_take 7 (.bool false) rfl (by kernel_rfl) (by kernel_rfl) (by kernel_rfl) (fun _ _ _ h => h) (Or.inl ⟨by rfl, fun x j => by go_simp⟩) J (fun K hK => ?_)
      go_simp
      refine hK _ _ ?_
      clear hK K
      refine held_take 8 (.bool false) rfl (by kernel_rfl) (by kernel_rfl) (by kernel_rfl) (fun _ _ _ h => h) (Or.inl ⟨by rfl, fun x j => by go_simp⟩) J (fun K hK => ?_)
      go_simp
      refine hK _ _ ?_
      clear hK K
      refine held_take 9 (.slice b4 ne c4) rfl (by kernel_rfl) (by kernel_rfl) (by kernel_rfl) (fun _ _ _ h => h) (Or.inl ⟨by rfl, fun x j => by go_simp⟩) J (fun K hK => ?_)
      go_simp
      refine hK _ _ ?_
      clear hK K
      refine held_take 10 (.slice base n cap) rfl (by kernel_rfl) (by kernel_rfl) (by kernel_rfl) (fun _ _ _ h => h) (Or.inl ⟨by rfl, fun x j => by go_simp⟩) J (fun K hK => ?_)
      go_simp
      refine hK _ _ ?_
      clear hK K
      refine held_take 11 (.string name) rfl (by kernel_rfl) (by kernel_rfl) (by kernel_rfl) (fun _ _ _ h => h) (Or.inl ⟨by rfl, fun x j => by go_simp⟩) J (fun K hK => ?_)
      go_simp
      refine hK _ _ ?_
      clear hK K
      refine held_one 12 (by kernel_rfl) (fun K hK => wpOp_in rfl rfl ?_)
      go_simp
      refine (re _ J.bel).mono ?_
      rintro e w8 ⟨v8, rfl, own8, hb⟩
      have Ja := J.below hb
      have V4a := V4.below hb
      rw [← HNE.out] at own8
      obtain ⟨b8, c8, rfl⟩ := own_shape own8
      have V8 : StrsAt w8 (.slice b8 ne c8) E := by rw [HNE.out] at own8 ⊢; exact owns_strs own8
      refine hK _ _ Ja ?_
      clear J hb own8 V4 re
      clear hK K
      refine held_one 13 (by kernel_rfl) (fun K hK => wpOp_in rfl rfl ?_)
      go_simp
      refine (tt _ _ _ _ _ V4a V8).mono ?_
      rintro e w9 ⟨rfl, hb⟩
      have Jb := Ja.below hb
      refine hK _ _ Jb ?_
      clear Ja hb V4a V8 tt
      clear hK K
      refine held_take 14 (.bool false) rfl (by kernel_rfl) (by kernel_rfl) (by kernel_rfl) (fun _ _ _ h => h) (Or.inl ⟨by rfl, fun x j => by go_simp⟩) Jb (fun K hK => ?_)
      go_simp
      refine hK _ _ ?_
      clear hK K
      refine held_take 15 (.bool false) rfl (by kernel_rfl) (by kernel_rfl) (by kernel_rfl) (fun _ _ _ h => h) (Or.inl ⟨by rfl, fun x j => by go_simp⟩) Jb (fun K hK => ?_)
      go_simp
      refine hK _ _ ?_
      clear hK K
      refine held_take 16 (.bool false) rfl (by kernel_rfl) (by kernel_rfl) (by kernel_rfl) (fun _ _ _ h => h) (Or.inl ⟨by rfl, fun x j => by go_simp⟩) Jb (fun K hK => ?_)
      go_simp
      refine hK _ _ ?_
      clear hK K
      refine held_take 17 (.int .i64 fn) rfl (by kernel_rfl) (by kernel_rfl) (by kernel_rfl) (fun _ _ _ h => h) (Or.inl ⟨by rfl, fun x j => by go_simp⟩) Jb (fun K hK => ?_)
      go_simp
      refine hK _ _ ?_
      clear hK K
      refine held_take 18 (.int .i64 fn) rfl (by kernel_rfl) (by kernel_rfl) (by kernel_rfl) (fun _ _ _ h => h) (Or.inl ⟨by rfl, fun x j => by go_simp⟩) Jb (fun K hK => ?_)
      go_simp
      refine hK _ _ ?_
      clear hK K
      refine held_take 19 (.bool false) rfl (by kernel_rfl) (by kernel_rfl) (by kernel_rfl) (fun _ _ _ h => h) (Or.inl ⟨by rfl, fun x j => by go_simp⟩) Jb (fun K hK => ?_)
      go_simp
      refine hK _ _ ?_
      clear hK K
      refine held_take 20 (.bool false) rfl (by kernel_rfl) (by kernel_rfl) (by kernel_rfl) (fun _ _ _ h => h) (Or.inl ⟨by rfl, fun x j => by go_simp⟩) Jb (fun K hK => ?_)
      go_simp
      refine hK _ _ ?_
      clear hK K
      refine held_take 21 (.bool false) rfl (by kernel_rfl) (by kernel_rfl) (by kernel_rfl) (fun _ _ _ h => h) (Or.inl ⟨by rfl, fun x j => by go_simp⟩) Jb (fun K hK => ?_)
      go_simp
      refine hK _ _ ?_
      clear hK K
      refine held_take 22 (.bool fc) rfl (by kernel_rfl) (by kernel_rfl) (by kernel_rfl) (fun _ _ _ h => h) (Or.inl ⟨by rfl, fun x j => by go_simp⟩) Jb (fun K hK => ?_)
      go_simp
      refine hK _ _ ?_
      clear hK K
      refine held_take 23 (.bool fc) rfl (by kernel_rfl) (by kernel_rfl) (by kernel_rfl) (fun _ _ _ h => h) (Or.inl ⟨by rfl, fun x j => by go_simp⟩) Jb (fun K hK => ?_)
      go_simp
      refine hK _ _ ?_
      clear hK K
      refine held_take 24 (.bool false) rfl (by kernel_rfl) (by kernel_rfl) (by kernel_rfl) (fun _ _ _ h => h) (Or.inl ⟨by rfl, fun x j => by go_simp⟩) Jb (fun K hK => ?_)
      go_simp
      refine hK _ _ ?_
      clear hK K
      refine held_take 25 (.bool false) rfl (by kernel_rfl) (by kernel_rfl) (by kernel_rfl) (fun _ _ _ h => h) (Or.inl ⟨by rfl, fun x j => by go_simp⟩) Jb (fun K hK => ?_)
      go_simp
      refine hK _ _ ?_
      clear hK K
      refine held_take 26 (.bool false) rfl (by kernel_rfl) (by kernel_rfl) (by kernel_rfl) (fun _ _ _ h => h) (Or.inl ⟨by rfl, fun x j => by go_simp⟩) Jb (fun K hK => ?_)
      go_simp
      refine hK _ _ ?_
      clear hK K
      refine held_take 27 (.int .i64 fe) rfl (by kernel_rfl) (by kernel_rfl) (by kernel_rfl) (fun _ _ _ h => h) (Or.inl ⟨by rfl, fun x j => by go_simp⟩) Jb (fun K hK => ?_)
      go_simp
      refine hK _ _ ?_
      clear hK K
      refine held_take 28 (.int .i64 fe) rfl (by kernel_rfl) (by kernel_rfl) (by kernel_rfl) (fun _ _ _ h => h) (Or.inl ⟨by rfl, fun x j => by go_simp⟩) Jb (fun K hK => ?_)
      go_simp
      refine hK _ _ ?_
      clear hK K
      refine held_take 29 (.bool false) rfl (by kernel_rfl) (by kernel_rfl) (by kernel_rfl) (fun _ _ _ h => h) (Or.inl ⟨by rfl, fun x j => by go_simp⟩) Jb (fun K hK => ?_)
      go_simp
      refine hK _ _ ?_
      clear hK K
      refine held_take 30 (.bool false) rfl (by kernel_rfl) (by kernel_rfl) (by kernel_rfl) (fun _ _ _ h => h) (Or.inl ⟨by rfl, fun x j => by go_simp⟩) Jb (fun K hK => ?_)
      go_simp
      refine hK _ _ ?_
      clear hK K
      refine held_take 31 (.bool false) rfl (by kernel_rfl) (by kernel_rfl) (by kernel_rfl) (fun _ _ _ h => h) (Or.inl ⟨by rfl, fun x j => by go_simp⟩) Jb (fun K hK => ?_)
      go_simp
      refine hK _ _ ?_
      clear hK K
      refine held_take 32 (.slice base n cap) rfl (by kernel_rfl) (by kernel_rfl) (by kernel_rfl) (fun _ _ _ h => h) (Or.inl ⟨by rfl, fun x j => by go_simp⟩) Jb (fun K hK => ?_)
      go_simp
      refine hK _ _ ?_
      clear hK K
      refine held_take 33 (.pointer (some ⟨B, 1, none⟩)) rfl (by kernel_rfl) (by kernel_rfl) (by kernel_rfl) (fun _ _ _ h => h) (Or.inl ⟨by rfl, fun x j => by go_simp⟩) Jb (fun K hK => ?_)
      go_simp
      refine hK _ _ ?_
      clear hK K
      refine held_take 34 (.int .i64 q) rfl (by kernel_rfl) (by kernel_rfl) (by kernel_rfl) (fun _ _ _ h => h) (Or.inl ⟨by rfl, fun x j => by (have c := j.c1; go_simp)⟩) Jb (fun K hK => ?_)
      go_simp
      refine hK _ _ ?_
      clear hK K
      refine held_take 36 (.slice base n cap) rfl (by kernel_rfl) (by kernel_rfl) (by kernel_rfl) (fun _ _ _ h => h) (Or.inl ⟨by rfl, fun x j => by go_simp⟩) Jb (fun K hK => ?_)
      go_simp
      refine hK _ _ ?_
      clear hK K
      refine held_take 37 (.pointer (some ⟨B, 1, none⟩)) rfl (by kernel_rfl) (by kernel_rfl) (by kernel_rfl) (fun _ _ _ h => h) (Or.inl ⟨by rfl, fun x j => by go_simp⟩) Jb (fun K hK => ?_)
      go_simp
      refine hK _ _ ?_
      clear hK K
      refine held_take 38 (.int .i64 q) rfl (by kernel_rfl) (by kernel_rfl) (by kernel_rfl) (fun _ _ _ h => h) (Or.inl ⟨by rfl, fun x j => by (have c := j.c1; go_simp)⟩) Jb (fun K hK => ?_)
      go_simp
      refine hK _ _ ?_
      clear hK K
      refine held_one 35 (by kernel_rfl) (fun K hK => wpOp_in rfl rfl ?_)
      go_simp
      refine (k1 _ Jb.bel).mono ?_
      rintro e w10 ⟨rfl, hb⟩
      have Jc := Jb.below hb
      refine hK _ _ Jc ?_
      clear Jb hb k1
      clear hK K
      refine held_one 39 (by kernel_rfl) (fun K hK => wpOp_in rfl rfl ?_)
      go_simp
      refine (k2 _ Jc.bel).mono ?_
      rintro e w11 ⟨rfl, hb⟩
      have Jd := Jc.below hb
      refine hK _ _ Jd ?_
      clear Jc hb k2
      clear hK K
      refine held_take 40 (.bool false) rfl (by kernel_rfl) (by kernel_rfl) (by kernel_rfl) (fun _ _ _ h => h) (Or.inl ⟨by rfl, fun x j => by go_simp⟩) Jd (fun K hK => ?_)
      go_simp
      refine hK _ _ ?_
      clear hK K
      refine held_take 41 (.bool false) rfl (by kernel_rfl) (by kernel_rfl) (by kernel_rfl) (fun _ _ _ h => h) (Or.inl ⟨by rfl, fun x j => by go_simp⟩) Jd (fun K hK => ?_)
      go_simp
      refine hK _ _ ?_
      clear hK K
      refine wpAnyH_done (by kernel_rfl) ?_ _
      have F0 := Jd.bel
      clear Jd
      go_wp2
      go_loopw [19] (fun i wr => ∃ k : Nat, k ≤ n ∧ i = .int .i64 k ∧ Below w.heap.size w wr) (fun i _ => n - (intOf i).toNat)
      case atStart => exact ⟨0, Nat.zero_le _, rfl, F0⟩
      case round =>
        clear F0
        obtain ⟨i, hi, rfl, bel⟩ := hrel
        have hN := bel.size
        by_cases hit : i < n
        · obtain ⟨x, hx⟩ : ∃ x, xs[i]? = some x := ⟨xs[i]'(by have := HN.out; omega), List.getElem?_eq_getElem _⟩
          obtain ⟨a, rfl, ha, _, _, c1'⟩ := (HV.out.below bel).loads hx
          have rv := SH.out.v x (List.mem_of_getElem? hx)
          have l2 : (i : Int) < (n : Int) := by omega
          have C1 := Lib.hid (show ∀ z, Below wr.heap.size wr z → z.cell? { (a.add (i * 2)) with off := (a.add (i * 2)).off + 1, spot := none } = some (.string x.v) from fun z hb => by
            obtain ⟨a', e, _, _, _, c1''⟩ := (HV.out.below (bel.trans (hb.mono bel.size))).loads hx
            injection e with e
            subst e
            rw [add_next]
            exact c1'')
          have c1 := C1.out wr (Below.refl _ _)
          have u1 := fun z => params_any x.v z rv
          have u2 := fun z => refParams_any x.v z rv
          have pl := pmF_len x.v
          unfold ParPost at u1 u2
          generalize pmF x.v = P at u1 u2 pl
          obtain ⟨ph, pls, pe⟩ := P
          have PL : pls.length ≤ 1099511627776 := by
            have : pls.length ≤ x.v.size + 1 := pl
            omega
          clear hx c1' pl
          go_wp2_with fail
          refine (u1 _).mono ?_
          rintro e w2 ⟨v2, rfl, V2, G2⟩
          have c2 := C1.out w2 G2
          clear u1 c1
          go_wp2_with fail
          refine (u2 _).mono ?_
          rintro e w3 ⟨v3, rfl, V3, G3⟩
          have sm : ∀ z, z = w3 → Calls Tryd.prog 20 #[v2, v3] z fun e w' => e = .returned (.bool true) ∧ Below z.heap.size z w' := fun z hz => by
            subst hz
            have := sameR_any (V2.below G3) V3 PL PL
            rw [sameB_yes rfl] at this
            exact this
          have bel3 := bel.trans ((G2.trans (G3.mono G2.size)).mono hN)
          clear u2 c2 C1 G2 G3 V2 V3 bel
          go_wp2_with fail
          refine (sm _ rfl).mono ?_
          rintro e w4 ⟨rfl, G4⟩
          have bel4 := bel3.trans (G4.mono bel3.size)
          clear sm G4 bel3
          go_wp2
          go_roundw
          case rel => exact ⟨i + 1, by omega, by go_num, bel4⟩
          case measure => simp [intOf]; omega
        · have l2 : ¬ (i : Int) < (n : Int) := by omega
          go_wp2
          go_ret
          exact ⟨rfl, bel⟩
theorem walkLists {v : Value} (xs : List Fd) (name : ByteArray) (y : Int × Int) (w : World) (hv : FdsAt w v xs) (hl : xs.length ≤ 9223372036854775807) (ho : ∀ y ∈ xs, y.Ok) (hr : Reach xs) (w1 : name.size ≤ maxLen) (w2 : (Lit.int .i64 y.1).wf = true ∧ (Lit.int .i64 y.2).wf = true) :
    Calls Tryd.prog 5 #[v, .string name, .agg #[.int .i64 y.1, .int .i64 y.2]] w fun e w' => e = .returned (.bool true) ∧ Below w.heap.size w w' := by
  unfold maxLen at w1
  have b1 := int_wf w2.1
  have b2 := int_wf w2.2
  by_cases h : 60 < xs.length ∨ 1024 < name.size
  · exact lists_big w v xs name y.1 y.2 hv hl w1 h
  · exact lists_main w v xs name y.1 y.2 hv (by omega) (by omega) hr b1.1 b1.2 b2.1 b2.2
end Go.Proofs.YtdimjeajgmlfkaaDoor.Fi
