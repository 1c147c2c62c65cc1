/-
  Contracts of Elements, has and Closes of package field.
  Contracts of has, Closes, lengthOf and Frame of package field.
  Bounds of heads, plainly: their fields are short, the errors are few, bodies are at most so long.
-/
import Derived.Test.YtbngfphiachnoaaGreatDoorSet6
import Derived.Test.YtbngfphiachnoaaGreatDoorSet2
section
namespace Go.Proofs.YtbngfphiachnoaaGreatDoor.Fi
open Go.RowKit Go.PlainAid
open Hx
set_option linter.unusedVariables false
set_option maxRecDepth 20000
set_option linter.unusedSimpArgs false

/-- fields that are few and short -/
structure Short (xs : List Fd) : Prop where
  len : xs.length ≤ 1000
  n : ∀ x ∈ xs, x.n.size ≤ 100000
  v : ∀ x ∈ xs, x.v.size ≤ 100000
theorem Short.reach {xs : List Fd} (h : Short xs) : Reach xs := fun x hx => by have := h.n x hx; have := h.v x hx; omega
/-- the elements of the first k values -/
def sumE (vs : List ByteArray) (k : Nat) : List ByteArray := ((vs.take k).map elsF).flatten
theorem elsTo {vs : List ByteArray} {k : Nat} {s : ByteArray} (h : vs[k]? = some s) : sumE vs (k + 1) = sumE vs k ++ elsF s := by
  unfold sumE
  rw [List.take_add_one, h]
  simp
theorem take_snoc' {ss : List ByteArray} {j : Nat} {p : ByteArray} (h : ss[j]? = some p) : ss.take (j + 1) = ss.take j ++ [p] := by
  rw [List.take_add_one, h]; rfl
theorem own_weaken {w : World} {B C e sz n : Nat} {v : Value} {xs : List Value} (h : w.ownsRow B e sz v n xs) (hC : C ≤ B) : w.ownsRow C e sz v n xs := by
  refine ⟨h.1, ?_⟩
  rcases h.2 with hn | ⟨g, cap, cur, hv, hb, r⟩
  · exact .inl hn
  · exact .inr ⟨g, cap, cur, hv, Nat.le_trans hC hb, r⟩
/-- two rows of the call's own in blocks of their own -/
def Apart (u v : Value) : Prop := u.ownBlock = none ∨ u.ownBlock ≠ v.ownBlock
theorem apart_new {w : World} {B e sz n e' sz' n' H : Nat} {u v : Value} {xs ys : List Value} (hu : w.ownsRow B e sz u n xs) (hv : w.ownsRow H e' sz' v n' ys) (hlt : ∀ b, u.ownBlock = some b → b < H) : Apart u v := by
  cases hq : u.ownBlock with
  | none => exact .inl hq
  | some b =>
    refine .inr fun e => ?_
    rw [hq] at e
    have := hlt b hq
    have := (hv.lt b e.symm).1
    omega
def ElRel (w : World) (E : List ByteArray) (v : Value) (wr : World) (m : Nat) : Prop :=
  ∃ (base : Option Addr) (cap : Nat), v = .slice base m cap ∧ Hid (m = E.length) ∧ wr.ownsRow w.heap.size 9 1 (.slice base m cap) m (strsL E) ∧ Below w.heap.size w wr
set_option maxRecDepth 100000 in
set_option maxHeartbeats 4000000 in
theorem elements_any {w : World} {v : Value} {xs : List Fd} (name : ByteArray) (hv : FdsAt w v xs) (hz : name.size ≤ 100000) (hs : Short xs) :
    Calls Tryz.prog 101 #[v, .string name] w fun e w' => ∃ v', e = .returned v' ∧ OwnS w w' v' (elemsF (ls name) xs) := by
  have r1 := valuesOf_any name hv (by have := hs.len; omega) (by omega) hs.reach
  have nl := valsF_le (ls name) xs
  have hl := hs.len
  have HB : Hid (∀ s ∈ valsF (ls name) xs, s.size ≤ 100000) := Lib.hid fun s h => by
    obtain ⟨x, hx, rfl⟩ := valsF_mem h
    exact hs.v x hx
  have hE : elemsF (ls name) xs = ((valsF (ls name) xs).map elsF).flatten := rfl
  rw [hE]
  obtain ⟨i0, hi, hz0, hz1, hz2⟩ := info_parts infoS
  obtain ⟨base0, cap0, rfl, _, _⟩ := hv.is
  clear hv hs hE
  generalize valsF (ls name) xs = vs at r1 nl HB ⊢
  obtain ⟨n, hn⟩ : ∃ n, n = vs.length := ⟨_, rfl⟩
  rw [← hn] at nl
  have HN := Lib.hid hn
  clear hn
  go_enter Tryz.func101, Tryz.ntmps101
  go_wp2_with fail
  refine r1.mono ?_
  rintro e w1 ⟨v1, rfl, own1, bel1⟩
  clear r1
  rw [← HN.out] at own1
  obtain ⟨b1, c1, rfl⟩ := own_shape own1
  have V1 : Hid (StrsAt w1 (.slice b1 n c1) vs) := Lib.hid (by rw [HN.out] at own1 ⊢; exact owns_strs own1)
  clear own1
  have own0 : w1.ownsRow w1.heap.size 9 1 (.slice none 0 0) 0 [] := World.ownsRow_nil _ _ _ _
  have BEL1 := Lib.hid bel1
  clear bel1
  go_wp2
  go_loopw [5, 14] (fun v i wr => ∃ (k m : Nat), k ≤ n ∧ m ≤ k * 100001 ∧ i = .int .i64 k ∧ ElRel w1 (sumE vs k) v wr m) (fun _ i _ => n - (intOf i).toNat)
  case atStart => exact ⟨0, 0, Nat.zero_le _, Nat.zero_le _, rfl, ⟨none, 0, rfl, Lib.hid rfl, own0, Below.refl _ _⟩⟩
  case round =>
    clear own0
    obtain ⟨k, m, hk, hm, rfl, ⟨base, cap, rfl, HM, own, bel⟩⟩ := hrel
    by_cases hlt : k < n
    · obtain ⟨s, hs⟩ : ∃ s, vs[k]? = some s := ⟨vs[k]'(by have := HN.out; omega), List.getElem?_eq_getElem _⟩
      have hsz := HB.out s (List.mem_of_getElem? hs)
      obtain ⟨a, rfl, ha, hcell⟩ := (V1.out.below bel).at hs
      have ET := Lib.hid (elsTo hs)
      have l1 : (k : Int) < (n : Int) := by omega
      have ct := cut_any s 44 44 (Lib.hid rfl) (by decide) (by decide) (by decide) wr (by omega)
      have eb := elsF_bound s
      have hel : elsF s = fillF ((cutA 44 (ls s)).map tx) := rfl
      rw [hel] at eb
      have EL := Lib.hid hel
      have cb := cutA_bound 44 (ls s)
      rw [ls_len] at cb
      have cl : ((cutA 44 (ls s)).map tx).length ≤ s.size + 1 := by rw [List.length_map]; exact cb.1
      clear hs hel cb
      generalize (cutA 44 (ls s)).map tx = ps at ct eb EL cl
      go_wp2_with fail
      refine ct.mono ?_
      rintro e w2 ⟨v2, rfl, own2, G2⟩
      have fl := filled_any (w := w2) (v := v2) (ss := ps) (owns_strs own2) (by omega)
      have own3 := owns_below own G2
      have lt3 : ∀ b, (Value.slice base m cap).ownBlock = some b → b < w2.heap.size := fun b hb => (own3.lt b hb).2
      have bel3 := bel.trans (G2.mono bel.size)
      clear ct own2 own bel G2 hcell
      go_wp2_with fail
      refine fl.mono ?_
      rintro e w3 ⟨v3, rfl, own4, G3⟩
      have own5 := owns_below own3 G3
      have bel5 := bel3.trans (G3.mono bel3.size)
      clear fl own3 bel3 G3
      obtain ⟨b3, c3, rfl⟩ := own_shape own4
      generalize fillF ps = qs at eb EL own4
      obtain ⟨p, hp⟩ : ∃ p, p = qs.length := ⟨_, rfl⟩
      rw [← hp] at own4 eb
      have AP0 : Apart (.slice b3 p c3) (.slice base m cap) := by
        cases hq : (Value.slice b3 p c3).ownBlock with
        | none => exact .inl hq
        | some b =>
          refine .inr fun e => ?_
          rw [hq] at e
          have h1 := lt3 b e.symm
          have h2 := (own4.lt b hq).1
          omega
      have HP := Lib.hid hp
      have HEB := Lib.hid eb.2
      have pb := eb.1
      rw [← hp]
      clear hp eb lt3
      go_wp2
      go_loopw [5, 22] (fun v i wq => ∃ (j : Nat) (base' : Option Addr) (cap' : Nat), j ≤ p ∧ i = .int .i64 j ∧ v = .slice base' (m + j) cap' ∧ wq.ownsRow w1.heap.size 9 1 (.slice base' (m + j) cap') (m + j) (strsL (sumE vs k ++ qs.take j)) ∧ Below w1.heap.size w1 wq ∧ wq.ownsRow w2.heap.size 9 1 (.slice b3 p c3) p (strsL qs) ∧ Apart (.slice b3 p c3) (.slice base' (m + j) cap')) (fun _ i _ => p - (intOf i).toNat)
      case atStart => exact ⟨0, base, cap, Nat.zero_le _, rfl, rfl, by simpa using own5, bel5, own4, AP0⟩
      case round =>
        clear own5 bel5 own4 AP0
        obtain ⟨j, base', cap', hj, rfl, rfl, own, bel, ownq, AP⟩ := hrel
        by_cases hjt : j < p
        · obtain ⟨q, hq⟩ : ∃ q, qs[j]? = some q := ⟨qs[j]'(by have := HP.out; omega), List.getElem?_eq_getElem _⟩
          have V3 : StrsAt wr (.slice b3 p c3) qs := by
            have := HP.out
            rw [this] at ownq ⊢
            exact owns_strs ownq
          obtain ⟨a2, rfl, ha2, hcell2⟩ := V3.at hq
          have hqs := HEB.out q (List.mem_of_getElem? hq)
          have TK := Lib.hid (take_snoc' hq)
          have l2 : (j : Int) < (p : Int) := by omega
          have cl2 := fun w => clone_any q w (by omega)
          clear hq V3
          go_wp2_with fail
          refine (cl2 _).mono ?_
          rintro e w5 ⟨rfl, G5⟩
          have own6 := owns_below own G5
          have ownq6 := owns_below ownq G5
          have bel8 := bel.trans (G5.mono bel.size)
          have hN := bel8.size
          clear own bel G5 cl2 hcell2 ownq
          go_upto_region 9 with (at_builtin; refine wpList_append_lies _ rfl _ _ 22 rfl w1.heap.size 9 i0 (.string ⟨#[]⟩) 1 16 Tryz.underlying22 hi hz0 hz1 hz2 rfl (by decide) _ _ _ rfl (own6.alloc _) ⟨w5.heap.size, 0, none⟩ 1 1 [.string q] rfl ?c0 ?c1 ?c2 ?c6 ?c3 ?c4 ?c5 (w5.heap.size + 1) (by simp) ?_)
          case c0 => rfl
          case c1 => exact new_str w5 q
          case c2 => intro u hu; simp at hu; subst hu; rfl
          case c6 => omega
          case c3 => unfold maxLen; omega
          case c4 => omega
          case c5 => simp; omega
          intro g cap6 w6 own7 hgrow hwhere _
          have own8 : w6.ownsRow w1.heap.size 9 1 (.slice (some ⟨g, 0, none⟩) (m + j + 1) cap6) (m + j + 1) (strsL (sumE vs k ++ qs.take (j + 1))) := by
            rw [TK.out, ← List.append_assoc, strsL_snoc]
            exact own7
          have bel9 := (bel8.alloc hN (.cells #[.string q] 9)).grown hgrow (by simp; omega) (fun j hj => (own6.lt j hj).1)
          have ownq7 := (ownq6.alloc (.cells #[.string q] 9)).kept hgrow AP
          have AP2 : Apart (.slice (some a2) p c3) (.slice (some ⟨g, 0, none⟩) (m + j + 1) cap6) := by
            rcases hwhere with e | e
            · rcases AP with h | h
              · exact .inl h
              · refine .inr fun e2 => h ?_
                rw [e2, e]; rfl
            · cases hq : (Value.slice (some a2) p c3).ownBlock with
              | none => exact .inl hq
              | some b =>
                refine .inr fun e2 => ?_
                have h2 := (ownq6.lt b hq).2
                rw [hq] at e2
                have : b = g := Option.some.inj e2
                omega
          clear own7 own6 hgrow bel8 ownq6 AP hwhere
          go_wp2
          go_roundw
          case rel => exact ⟨j + 1, _, cap6, by omega, by go_num, rfl, own8, bel9, ownq7, AP2⟩
          case measure => simp [intOf]; omega
        · obtain rfl : j = p := by omega
          have l2 : ¬ (j : Int) < (j : Int) := by omega
          have TK := Lib.hid (show qs.take j = qs from List.take_of_length_le (by have := HP.out; omega))
          go_wp2
          go_roundw
          case rel => exact ⟨k + 1, m + j, by omega, by omega, by go_num, ⟨base', cap', rfl, Lib.hid (by rw [ET.out, EL.out, List.length_append, ← HM.out, ← HP.out]), by rw [ET.out, EL.out]; rw [TK.out] at own; exact own, bel⟩⟩
          case measure => simp [intOf]; omega
    · have l1 : ¬ (k : Int) < (n : Int) := by omega
      have E := Lib.hid (show sumE vs k = (vs.map elsF).flatten by unfold sumE; rw [List.take_of_length_le (by have := HN.out; omega)])
      go_wp2
      go_ret
      rw [E.out] at own HM
      have hm2 := HM.out
      have own2 := own_weaken own BEL1.out.size
      rw [hm2] at own2
      exact ⟨_, by rw [hm2]; rfl, own2, BEL1.out.trans (bel.mono BEL1.out.size)⟩
end Go.Proofs.YtbngfphiachnoaaGreatDoor.Fi
end

section
namespace Go.Proofs.YtbngfphiachnoaaGreatDoor.Fi
open Go.RowKit Go.PlainAid
open Hx
set_option linter.unusedVariables false
set_option maxRecDepth 20000
set_option linter.unusedSimpArgs false

def HasTo (word : List UInt8) (ss : List ByteArray) (k : Nat) : Prop := hasF word (ss.take k) = false
theorem HasTo.succ {word : List UInt8} {ss : List ByteArray} {k : Nat} {s : ByteArray} (h : HasTo word ss k) (hs : ss[k]? = some s) (hn : sameL (ls s) word = false) : HasTo word ss (k + 1) := by
  unfold HasTo hasF at h ⊢
  rw [List.take_add_one, hs, List.any_append, h]
  simp [hn]
theorem has_yes {word : List UInt8} {ss : List ByteArray} {k : Nat} {s : ByteArray} (hs : ss[k]? = some s) (hn : sameL (ls s) word = true) : hasF word ss = true := by
  unfold hasF
  rw [List.any_eq_true]
  exact ⟨s, List.mem_of_getElem? hs, hn⟩
set_option maxHeartbeats 1000000 in
theorem has_any {w : World} {v : Value} {ss : List ByteArray} (word : ByteArray) (hv : StrsAt w v ss) (hl : ss.length ≤ 1099511627776) (hz : word.size ≤ 100000) (hs : ∀ s ∈ ss, s.size ≤ 140737488355328) :
    Calls Tryz.prog 102 #[.string word, v] w fun e w' => e = .returned (.bool (hasF (ls word) ss)) ∧ Below w.heap.size w w' := by
  obtain ⟨base, cap, rfl, _, _⟩ := hv.is
  have HV := Lib.hid hv
  have HS := Lib.hid hs
  clear hv hs
  obtain ⟨n, hn⟩ : ∃ n, n = ss.length := ⟨_, rfl⟩
  rw [← hn] at HV hl ⊢
  have HN := Lib.hid hn
  clear hn
  generalize hr : hasF (ls word) ss = r
  have HR := Lib.hid hr
  clear hr
  go_enter Tryz.func102, Tryz.ntmps102
  go_wp2
  go_loopw [9] (fun i wr => ∃ k : Nat, k ≤ n ∧ i = .int .i64 k ∧ Hid (HasTo (ls word) ss k) ∧ Below w.heap.size w wr) (fun i _ => n - (intOf i).toNat)
  case atStart => exact ⟨0, Nat.zero_le _, rfl, Lib.hid (by unfold HasTo; rfl), Below.refl _ _⟩
  case round =>
    obtain ⟨k, hk, rfl, HT, bel⟩ := hrel
    by_cases hlt : k < n
    · obtain ⟨s, hs⟩ : ∃ s, ss[k]? = some s := ⟨ss[k]'(by have := HN.out; omega), List.getElem?_eq_getElem _⟩
      obtain ⟨a, rfl, ha, hcell⟩ := (HV.out.below bel).at hs
      have hsz := HS.out s (List.mem_of_getElem? hs)
      have l1 : (k : Int) < (n : Int) := by omega
      have sm := same_any s word wr (by omega) (by omega)
      cases hq : sameL (ls s) (ls word) with
      | true =>
        have e : r = true := by rw [← HR.out]; exact has_yes hs hq
        subst e
        rw [hq] at sm
        clear hs hq
        go_wp2_with fail
        refine sm.mono ?_
        rintro e w2 ⟨rfl, G⟩
        clear sm
        go_wp2
        go_ret
        exact ⟨rfl, bel.trans (G.mono bel.size)⟩
      | false =>
        have H2 := Lib.hid (HT.out.succ hs hq)
        rw [hq] at sm
        clear hs hq
        go_wp2_with fail
        refine sm.mono ?_
        rintro e w2 ⟨rfl, G⟩
        have bel2 := bel.trans (G.mono bel.size)
        clear sm bel G
        go_wp2
        go_roundw
        case rel => exact ⟨k + 1, by omega, by go_num, H2, bel2⟩
        case measure => simp [intOf]; omega
    · have l1 : ¬ (k : Int) < (n : Int) := by omega
      have e : r = false := by
        rw [← HR.out]
        have := HT.out
        unfold HasTo at this
        rwa [List.take_of_length_le (by have := HN.out; omega)] at this
      subst e
      go_wp2
      go_ret
      exact ⟨rfl, bel⟩
theorem elemsF_bound {name : List UInt8} {xs : List Fd} (hs : Short xs) : (elemsF name xs).length ≤ 1000 * 100001 ∧ ∀ s ∈ elemsF name xs, s.size ≤ 100000 := by
  unfold elemsF
  have hl := Nat.le_trans (valsF_le name xs) hs.len
  have hv : ∀ s ∈ valsF name xs, s.size ≤ 100000 := fun s h => by
    obtain ⟨x, hx, rfl⟩ := valsF_mem h
    exact hs.v x hx
  generalize valsF name xs = vs at hl hv
  constructor
  · have : ∀ l : List ByteArray, (∀ s ∈ l, s.size ≤ 100000) → ((l.map elsF).flatten).length ≤ l.length * 100001 := by
      intro l
      induction l with
      | nil => intro _; simp
      | cons s l ih =>
        intro h
        have h1 := (elsF_bound s).1
        have h2 := h s (by simp)
        have h3 := ih (fun x hx => h x (by simp [hx]))
        simp only [List.map_cons, List.flatten_cons, List.length_append, List.length_cons]
        omega
    exact Nat.le_trans (this vs hv) (Nat.mul_le_mul_right _ hl)
  · intro s h
    obtain ⟨l, hl, hs⟩ := List.mem_flatten.1 h
    obtain ⟨t, ht, rfl⟩ := List.mem_map.1 hl
    have h1 := (elsF_bound t).2 s hs
    have h2 := hv t ht
    omega
theorem closes_any {w : World} {v : Value} {xs : List Fd} (minor : Int) (h2 : -9223372036854775808 ≤ minor) (h3 : minor ≤ 9223372036854775807) (hv : FdsAt w v xs) (hs : Short xs) :
    Calls Tryz.prog 75 #[v, .int .i64 minor] w fun e w' => e = .returned (.bool (closesF xs minor)) ∧ Below w.heap.size w w' := by
  have r1 : Calls Tryz.prog 101 #[v, .string ⟨#[67, 111, 110, 110, 101, 99, 116, 105, 111, 110]⟩] w fun e w' => ∃ v', e = .returned v' ∧ OwnS w w' v' (elemsF (ls nCon) xs) := elements_any nCon hv (by decide) hs
  have eb := elemsF_bound (name := ls nCon) hs
  obtain ⟨base, cap, rfl, _, _⟩ := hv.is
  clear hv hs
  unfold closesF
  generalize elemsF (ls nCon) xs = es at r1 eb ⊢
  have HB := Lib.hid eb.2
  have hl := eb.1
  clear eb
  by_cases c1 : hasF (ls wClose) es = true
  · rw [if_pos c1]
    have C1 := Lib.hid c1
    clear c1
    go_enter Tryz.func75, Tryz.ntmps75
    go_wp2_with fail
    refine r1.mono ?_
    rintro e w1 ⟨v1, rfl, own, bel⟩
    have q1 : Calls Tryz.prog 102 #[.string ⟨#[99, 108, 111, 115, 101]⟩, v1] w1 fun e w' => e = .returned (.bool (hasF (ls wClose) es)) ∧ Below w1.heap.size w1 w' := has_any wClose (owns_strs own) (by omega) (by decide) (fun s h => by have := HB.out s h; omega)
    rw [C1.out] at q1
    clear r1 own
    go_wp2_with fail
    refine q1.mono ?_
    rintro e w2 ⟨rfl, G⟩
    clear q1
    go_wp2
    go_ret
    exact ⟨rfl, bel.trans (G.mono bel.size)⟩
  rw [if_neg c1]
  have c1' : hasF (ls wClose) es = false := by simpa using c1
  have C1 := Lib.hid c1'
  clear c1 c1'
  by_cases c2 : hasF (ls wKeep) es = true
  · rw [if_pos c2]
    have C2 := Lib.hid c2
    clear c2
    go_enter Tryz.func75, Tryz.ntmps75
    go_wp2_with fail
    refine r1.mono ?_
    rintro e w1 ⟨v1, rfl, own, bel⟩
    have q1 : Calls Tryz.prog 102 #[.string ⟨#[99, 108, 111, 115, 101]⟩, v1] w1 fun e w' => e = .returned (.bool (hasF (ls wClose) es)) ∧ Below w1.heap.size w1 w' := has_any wClose (owns_strs own) (by omega) (by decide) (fun s h => by have := HB.out s h; omega)
    rw [C1.out] at q1
    have V := owns_strs own
    clear r1 own
    go_wp2_with fail
    refine q1.mono ?_
    rintro e w2 ⟨rfl, G⟩
    have bel2 := bel.trans (G.mono bel.size)
    have q2 : Calls Tryz.prog 102 #[.string ⟨#[107, 101, 101, 112, 45, 97, 108, 105, 118, 101]⟩, v1] w2 fun e w' => e = .returned (.bool (hasF (ls wKeep) es)) ∧ Below w2.heap.size w2 w' := has_any wKeep (V.below G) (by omega) (by decide) (fun s h => by have := HB.out s h; omega)
    rw [C2.out] at q2
    clear q1 G V bel
    go_wp2_with fail
    refine q2.mono ?_
    rintro e w3 ⟨rfl, G⟩
    clear q2
    go_wp2
    go_ret
    exact ⟨rfl, bel2.trans (G.mono bel2.size)⟩
  · rw [if_neg c2]
    have c2' : hasF (ls wKeep) es = false := by simpa using c2
    have C2 := Lib.hid c2'
    clear c2 c2'
    go_enter Tryz.func75, Tryz.ntmps75
    go_wp2_with fail
    refine r1.mono ?_
    rintro e w1 ⟨v1, rfl, own, bel⟩
    have q1 : Calls Tryz.prog 102 #[.string ⟨#[99, 108, 111, 115, 101]⟩, v1] w1 fun e w' => e = .returned (.bool (hasF (ls wClose) es)) ∧ Below w1.heap.size w1 w' := has_any wClose (owns_strs own) (by omega) (by decide) (fun s h => by have := HB.out s h; omega)
    rw [C1.out] at q1
    have V := owns_strs own
    clear r1 own
    go_wp2_with fail
    refine q1.mono ?_
    rintro e w2 ⟨rfl, G⟩
    have bel2 := bel.trans (G.mono bel.size)
    have q2 : Calls Tryz.prog 102 #[.string ⟨#[107, 101, 101, 112, 45, 97, 108, 105, 118, 101]⟩, v1] w2 fun e w' => e = .returned (.bool (hasF (ls wKeep) es)) ∧ Below w2.heap.size w2 w' := has_any wKeep (V.below G) (by omega) (by decide) (fun s h => by have := HB.out s h; omega)
    rw [C2.out] at q2
    clear q1 G V bel
    go_wp2_with fail
    refine q2.mono ?_
    rintro e w3 ⟨rfl, G⟩
    clear q2
    go_wp2
    go_ret
    exact ⟨rfl, bel2.trans (G.mono bel2.size)⟩

/-! ### Frame -/
theorem undec_any (s : ByteArray) (m : Int) (w : World) (hs : s.size ≤ 4611686018427387904) (h2 : -9223372036854775808 ≤ m) (h3 : m ≤ 9223372036854775807) :
    Calls Tryz.prog 116 #[.string s, .int .i64 m] w fun e w' => e = .returned (.tuple #[.int .i64 (undN s m), .int .i64 (undE s m)]) ∧ w = w' := by
  unfold undN undE
  by_cases h : DecForm s
  · rw [if_pos h, if_pos h]
    by_cases c : s.size ≤ 19
    · rw [if_pos c, if_pos c]; exact undec_short s m w h c h2 h3
    · rw [if_neg c, if_neg c]; exact undec_long s m w hs h (by omega)
  · rw [if_neg h, if_neg h]; exact undec_form s m w hs h
theorem lengthOf_any (s : ByteArray) (m : Int) (w : World) (hs : s.size ≤ 4611686018427387904) (h2 : -9223372036854775808 ≤ m) (h3 : m ≤ 9223372036854775807) :
    Calls Tryz.prog 100 #[.string s, .int .i64 m] w fun e w' => e = .returned (.tuple #[.int .i64 (lenN s m), .int .i64 (lenE s m)]) ∧ w = w' := by
  have r := undec_any s m w hs h2 h3
  unfold lenN lenE
  generalize undN s m = N at *
  generalize undE s m = E at *
  by_cases c : E = 14
  · rw [if_pos c, if_pos c]
    subst c
    go_enter Tryz.func100, Tryz.ntmps100
    go_wp2_with fail
    refine r.mono ?_
    rintro e w2 ⟨rfl, rfl⟩
    clear r
    go_wp2
    go_ret2
    exact ⟨rfl, rfl⟩
  · rw [if_neg c, if_neg c]
    have g : (E == 14) = false := beq_eq_false_iff_ne.2 c
    clear c
    go_enter Tryz.func100, Tryz.ntmps100
    go_wp2_with fail
    refine r.mono ?_
    rintro e w2 ⟨rfl, rfl⟩
    clear r
    go_wp2
    go_ret2
    exact ⟨rfl, rfl⟩
set_option maxHeartbeats 1000000 in
theorem frame_any {w : World} {v : Value} {xs : List Fd} (m : Int) (hv : FdsAt w v xs) (hl : xs.length ≤ 1000000) (hr : Reach xs) (h2 : -9223372036854775808 ≤ m) (h3 : m ≤ 9223372036854775807) :
    Calls Tryz.prog 73 #[v, .int .i64 m] w fun e w' => e = .returned (.tuple #[.int .i64 (frF xs m).n, .bool (frF xs m).c, .int .i64 (frF xs m).e]) ∧ Below w.heap.size w w' := by
  have r1 : Calls Tryz.prog 18 #[v, .string ⟨#[84, 114, 97, 110, 115, 102, 101, 114, 45, 69, 110, 99, 111, 100, 105, 110, 103]⟩] w fun e w' => e = .returned (.tuple #[.string (getS (ls nTE) xs), .int .i64 (getN (ls nTE) xs)]) ∧ Below w.heap.size w w' := get_any nTE hv hl (by decide) hr
  have r2 : ∀ w2, Below w.heap.size w w2 → Calls Tryz.prog 18 #[v, .string ⟨#[67, 111, 110, 116, 101, 110, 116, 45, 76, 101, 110, 103, 116, 104]⟩] w2 fun e w' => e = .returned (.tuple #[.string (getS (ls nCL) xs), .int .i64 (getN (ls nCL) xs)]) ∧ Below w2.heap.size w2 w' := fun w2 hb => get_any nCL (hv.below hb) hl (by decide) hr
  have z1 := getS_le (name := ls nTE) hr
  have z2 := getS_le (name := ls nCL) hr
  have n1 : getN (ls nTE) xs ≤ 1000000 := Nat.le_trans (valsF_le _ _) hl
  have n2 : getN (ls nCL) xs ≤ 1000000 := Nat.le_trans (valsF_le _ _) hl
  obtain ⟨base, cap, rfl, _, _⟩ := hv.is
  clear hv hr hl
  unfold frF
  have lo := fun w => lengthOf_any (getS (ls nCL) xs) m w (by omega) h2 h3
  have sm : ∀ w, Calls Tryz.prog 67 #[.string (getS (ls nTE) xs), .string ⟨#[99, 104, 117, 110, 107, 101, 100]⟩] w fun e w' => e = .returned (.bool (sameL (ls (getS (ls nTE) xs)) (ls wChunked))) ∧ Below w.heap.size w w' := fun w => same_any (getS (ls nTE) xs) wChunked w (by omega) (by decide)
  generalize getS (ls nTE) xs = s1 at *
  generalize getS (ls nCL) xs = s2 at *
  generalize getN (ls nTE) xs = t at *
  generalize getN (ls nCL) xs = k at *
  generalize lenN s2 m = LN at *
  generalize lenE s2 m = LE at *
  generalize sameL (ls s1) (ls wChunked) = sc at *
  by_cases c0 : t = 0 ∧ k = 0
  · rw [if_pos c0]
    obtain ⟨rfl, rfl⟩ := c0
    go_enter Tryz.func73, Tryz.ntmps73
    go_wp2_with fail
    refine r1.mono ?_
    rintro e w1 ⟨rfl, G⟩
    clear r1
    go_wp2_with fail
    refine (r2 _ G).mono ?_
    rintro e w2 ⟨rfl, G2⟩
    clear r2
    go_wp2
    go_ret3
    exact ⟨rfl, G.trans (G2.mono G.size)⟩
  rw [if_neg c0]
  have hb : ((t : Int) == 0) = false ∨ (((t : Int) == 0) = true ∧ ((k : Int) == 0) = false) := by
    by_cases h : t = 0
    · exact .inr ⟨by rw [h]; rfl, by rw [beq_eq_false_iff_ne]; omega⟩
    · exact .inl (by rw [beq_eq_false_iff_ne]; omega)
  by_cases c1 : 1 < t + k
  · rw [if_pos c1]
    have g1 : (1 : Int) < (t : Int) + (k : Int) := by omega
    clear c0 c1
    rcases hb with b1 | ⟨b1, b2⟩
    all_goals
      go_enter Tryz.func73, Tryz.ntmps73
      go_wp2_with fail
      refine r1.mono ?_
      rintro e w1 ⟨rfl, G⟩
      clear r1
      go_wp2_with fail
      refine (r2 _ G).mono ?_
      rintro e w2 ⟨rfl, G2⟩
      clear r2
      go_wp2
      go_ret3
      exact ⟨rfl, G.trans (G2.mono G.size)⟩
  rw [if_neg c1]
  have g1 : ¬ (1 : Int) < (t : Int) + (k : Int) := by omega
  by_cases c2 : k = 1
  · rw [if_pos c2]
    obtain rfl : t = 0 := by omega
    subst c2
    clear hb g1 c0 c1
    go_enter Tryz.func73, Tryz.ntmps73
    go_wp2_with fail
    refine r1.mono ?_
    rintro e w1 ⟨rfl, G⟩
    clear r1
    go_wp2_with fail
    refine (r2 _ G).mono ?_
    rintro e w2 ⟨rfl, G2⟩
    clear r2
    go_wp2_with fail
    refine (lo _).mono ?_
    rintro e w3 ⟨rfl, rfl⟩
    clear lo
    go_wp2
    go_ret3
    exact ⟨rfl, G.trans (G2.mono G.size)⟩
  rw [if_neg c2]
  obtain ⟨rfl, rfl⟩ : t = 1 ∧ k = 0 := by omega
  clear hb g1 c0 c1 c2
  cases sc with
  | true =>
    rw [if_pos rfl]
    go_enter Tryz.func73, Tryz.ntmps73
    go_wp2_with fail
    refine r1.mono ?_
    rintro e w1 ⟨rfl, G⟩
    clear r1
    go_wp2_with fail
    refine (r2 _ G).mono ?_
    rintro e w2 ⟨rfl, G2⟩
    replace G := G.trans (G2.mono G.size)
    clear r2 G2
    go_wp2_with fail
    refine (sm _).mono ?_
    rintro e w3 ⟨rfl, G2⟩
    clear sm
    go_wp2
    go_ret3
    exact ⟨rfl, G.trans (G2.mono G.size)⟩
  | false =>
    rw [if_neg (by simp)]
    go_enter Tryz.func73, Tryz.ntmps73
    go_wp2_with fail
    refine r1.mono ?_
    rintro e w1 ⟨rfl, G⟩
    clear r1
    go_wp2_with fail
    refine (r2 _ G).mono ?_
    rintro e w2 ⟨rfl, G2⟩
    replace G := G.trans (G2.mono G.size)
    clear r2 G2
    go_wp2_with fail
    refine (sm _).mono ?_
    rintro e w3 ⟨rfl, G2⟩
    clear sm
    go_wp2
    go_ret3
    exact ⟨rfl, G.trans (G2.mono G.size)⟩
end Go.Proofs.YtbngfphiachnoaaGreatDoor.Fi
end

section
namespace Go.Proofs.YtbngfphiachnoaaGreatDoor.In
open Go.RowKit Go.PlainAid
open Hx Fi Ch
set_option linter.unusedVariables false
set_option maxRecDepth 20000
set_option linter.unusedSimpArgs false

def Sm (x : Fi.Fd) : Prop := x.n.size ≤ 4096 ∧ x.v.size ≤ 4096
theorem lineF_x {full : Bool} {l : List UInt8} {e : Int} (h : lineF full l = .error e) : e = 3 ∨ e = 4 ∨ e = 17 := by
  unfold lineF at h
  split at h
  · injection h with h; split at h <;> omega
  · split at h
    · cases h
    · injection h with h; omega
theorem fld_small (full : Bool) : ∀ (k : Nat) (l : List UInt8), l.length ≤ k → k ≤ 4096 → ∀ (at_ : Nat) (acc : List Fi.Fd), (∀ x ∈ acc, Sm x) → (∀ x ∈ (fldF full l at_ acc).list, Sm x) ∧ ((fldF full l at_ acc).err = 0 ∨ (fldF full l at_ acc).err = 3 ∨ (fldF full l at_ acc).err = 4 ∨ (fldF full l at_ acc).err = 17) := by
  intro k
  induction k with
  | zero =>
    intro l hl _ at_ acc ha
    have : l = [] := List.eq_nil_of_length_eq_zero (by omega)
    subst this
    rw [fldF_err at_ acc lineF_nil]
    refine ⟨by simp, ?_⟩
    cases full <;> simp
  | succ k ih =>
    intro l hl hk at_ acc ha
    cases hq : lineF full l with
    | error e =>
      rw [fldF_err at_ acc hq]
      exact ⟨by simp, .inr (lineF_x hq)⟩
    | ok p =>
      obtain ⟨x, r⟩ := p
      have hlen := lineF_len hq
      by_cases hx : x = []
      · subst hx
        rw [fldF_end at_ acc hq]
        exact ⟨ha, .inl rfl⟩
      · cases hp : parseF x with
        | none => rw [fldF_form at_ acc hq hx hp]; exact ⟨by simp, .inr (.inl rfl)⟩
        | some f =>
          by_cases hl32 : acc.length = 32
          · rw [fldF_long at_ acc hq hx hp hl32]; exact ⟨by simp, .inr (.inr (.inl rfl))⟩
          · rw [fldF_step at_ acc hq hx hp hl32]
            refine ih r (by omega) (by omega) (at_ + x.length + 2) (acc ++ [f]) fun y hy => ?_
            rcases List.mem_append.1 hy with h | h
            · exact ha y h
            · rw [List.mem_singleton] at h
              subst h
              have := parseF_le hp
              exact ⟨by omega, by omega⟩
theorem spl_small (l : List UInt8) : (∀ x ∈ (spl l).list, Sm x) ∧ ((spl l).err = 0 ∨ (spl l).err = 3 ∨ (spl l).err = 4 ∨ (spl l).err = 17) := by
  unfold spl
  have ht : (l.take 4096).length ≤ 4096 := by rw [List.length_take]; omega
  cases hq : lineF (decide (4096 ≤ l.length)) (l.take 4096) with
  | error e => exact ⟨by simp, .inr (lineF_x hq)⟩
  | ok p =>
    obtain ⟨x, r⟩ := p
    have hlen := lineF_len hq
    simp only
    split
    · exact ⟨by simp, .inr (.inl rfl)⟩
    · split
      · exact ⟨by simp, .inr (.inr (.inl rfl))⟩
      · exact fld_small _ r.length r (Nat.le_refl _) (by omega) _ [] (by simp)
theorem spl_short2 (l : List UInt8) : Short (spl l).list :=
  ⟨by have := spl_32 l; omega, fun x hx => by have := ((spl_small l).1 x hx).1; omega, fun x hx => by have := ((spl_small l).1 x hx).2; omega⟩
theorem spl_start (l : List UInt8) : (spl l).start.length ≤ 4096 := by
  unfold spl
  cases hq : lineF (decide (4096 ≤ l.length)) (l.take 4096) with
  | error e => simp
  | ok p =>
    obtain ⟨x, r⟩ := p
    have hlen := lineF_len hq
    rw [List.length_take] at hlen
    simp only
    split
    · simp
    · split
      · simp
      · simp only
        split
        · omega
        · simp
theorem fr_e (xs : List Fi.Fd) : (frF xs 4096).e = 0 ∨ (frF xs 4096).e = 3 ∨ (frF xs 4096).e = 4 := by
  unfold frF
  split
  · exact .inl rfl
  · split
    · exact .inr (.inl rfl)
    · split
      · unfold lenE
        rcases und_cases (getS (ls nCL) xs) 4096 with ⟨h, _⟩ | ⟨h, _⟩
        · rw [h]; exact .inl rfl
        · rcases h with h | h <;> rw [h] <;> simp
      · split
        · exact .inl rfl
        · exact .inr (.inl rfl)
theorem fr_n (xs : List Fi.Fd) : -1 ≤ (frF xs 4096).n ∧ (frF xs 4096).n ≤ 4096 := by
  unfold frF
  split
  · exact ⟨by simp, by simp⟩
  · split
    · exact ⟨by simp, by simp⟩
    · split
      · simp only
        unfold lenN
        rcases und_cases (getS (ls nCL) xs) 4096 with ⟨h, h1, h2⟩ | ⟨h, h1⟩
        · split <;> omega
        · split <;> omega
      · split <;> exact ⟨by simp, by simp⟩
/-- what a head that is whole comes to -/
theorem headQ_ok {h : Hd} {q : Rq} {f : Fr} (e : headQ h = .ok (q, f)) : f = frF h.list 4096 ∧ f.e = 0 ∧ q.fs = h.list ∧ ∃ m t k, lnQ h.start = .ok (m, t, k) ∧ q = ⟨m, t, h.list, closesF h.list k⟩ ∧ ¬ (1 < getN (ls nHost) h.list ∨ (getN (ls nHost) h.list = 0 ∧ k = 1)) := by
  unfold headQ at e
  cases hq : lnQ h.start with
  | error s => rw [hq] at e; cases e
  | ok p =>
    obtain ⟨m, t, k⟩ := p
    rw [hq] at e
    simp only at e
    split at e
    · cases e
    · rename_i h1
      split at e
      · cases e
      · split at e
        · cases e
        · rename_i h2 h3
          injection e with e
          injection e with e1 e2
          subst e1 e2
          exact ⟨rfl, by omega, rfl, m, t, k, rfl, rfl, h1⟩
theorem lnQ_k {l : List UInt8} {m t : List UInt8} {k : Nat} (h : lnQ l = .ok (m, t, k)) : k ≤ 1 ∧ m.length + t.length ≤ l.length := by
  unfold lnQ at h
  split at h
  · cases h
  · rename_i m' r hc
    have hc := congrArg List.length (cutB_some hc).1
    rw [List.length_append, List.length_cons] at hc
    split at h
    · split at h
      · cases h
      · rename_i t' v hc2
        have hc2 := congrArg List.length (cutB_some hc2).1
        rw [List.length_append, List.length_cons] at hc2
        split at h
        · split at h
          · cases h
          · rename_i a b _
            split at h
            · rename_i hab
              injection h with h
              injection h with e1 h
              injection h with e2 e3
              subst e1 e2 e3
              have := UInt8.le_iff_toNat_le.1 hab.2
              have e49 : (49 : UInt8).toNat = 49 := rfl
              omega
            · cases h
        · cases h
    · cases h
end Go.Proofs.YtbngfphiachnoaaGreatDoor.In
end
