/-
  Contracts of has, Closes, lengthOf and Frame of package field.
-/
import Derived.Test.YtdimjeajgmlfkaaDoorFiEls
namespace Go.Proofs.YtdimjeajgmlfkaaDoor.Fi
open Go.RowKit Go.PlainAid
open Hx
set_option linter.unusedVariables false
set_option maxRecDepth 20000
set_option linter.unusedSimpArgs false

def HasTo (word : List UInt8) (ss : List ByteArray) (k : Nat) : Prop := hasF word (ss.take k) = false
theorem HasTo.succ {word : List UInt8} {ss : List ByteArray} {k : Nat} {s : ByteArray} (h : HasTo word ss k) (hs : ss[k]? = some s) (hn : sameL (ls s) word = false) : HasTo word ss (k + 1) := by
  unfold HasTo hasF at h ⊢
  rw [List.take_add_one, hs, List.any_append, h]
  simp [hn]
theorem has_yes {word : List UInt8} {ss : List ByteArray} {k : Nat} {s : ByteArray} (hs : ss[k]? = some s) (hn : sameL (ls s) word = true) : hasF word ss = true := by
  unfold hasF
  rw [List.any_eq_true]
  exact ⟨s, List.mem_of_getElem? hs, hn⟩
set_option maxHeartbeats 1000000 in
theorem has_any {w : World} {v : Value} {ss : List ByteArray} (word : ByteArray) (hv : StrsAt w v ss) (hl : ss.length ≤ 1099511627776) (hz : word.size ≤ 100000) (hs : ∀ s ∈ ss, s.size ≤ 140737488355328) :
    Calls Tryd.prog 50 #[.string word, v] w fun e w' => e = .returned (.bool (hasF (ls word) ss)) ∧ Below w.heap.size w w' := by
  obtain ⟨base, cap, rfl, _, _⟩ := hv.is
  have HV := Lib.hid hv
  have HS := Lib.hid hs
  clear hv hs
  obtain ⟨n, hn⟩ : ∃ n, n = ss.length := ⟨_, rfl⟩
  rw [← hn] at HV hl ⊢
  have HN := Lib.hid hn
  clear hn
  generalize hr : hasF (ls word) ss = r
  have HR := Lib.hid hr
  clear hr
  go_enter Tryd.func50, Tryd.ntmps50
  go_wp2
  go_loopw [9] (fun i wr => ∃ k : Nat, k ≤ n ∧ i = .int .i64 k ∧ Hid (HasTo (ls word) ss k) ∧ Below w.heap.size w wr) (fun i _ => n - (intOf i).toNat)
  case atStart => exact ⟨0, Nat.zero_le _, rfl, Lib.hid (by unfold HasTo; rfl), Below.refl _ _⟩
  case round =>
    obtain ⟨k, hk, rfl, HT, bel⟩ := hrel
    by_cases hlt : k < n
    · obtain ⟨s, hs⟩ : ∃ s, ss[k]? = some s := ⟨ss[k]'(by have := HN.out; omega), List.getElem?_eq_getElem _⟩
      obtain ⟨a, rfl, ha, hcell⟩ := (HV.out.below bel).at hs
      have hsz := HS.out s (List.mem_of_getElem? hs)
      have l1 : (k : Int) < (n : Int) := by omega
      have sm := same_any s word wr (by omega) (by omega)
      cases hq : sameL (ls s) (ls word) with
      | true =>
        have e : r = true := by rw [← HR.out]; exact has_yes hs hq
        subst e
        rw [hq] at sm
        clear hs hq
        go_wp2_with fail
        refine sm.mono ?_
        rintro e w2 ⟨rfl, G⟩
        clear sm
        go_wp2
        go_ret
        exact ⟨rfl, bel.trans (G.mono bel.size)⟩
      | false =>
        have H2 := Lib.hid (HT.out.succ hs hq)
        rw [hq] at sm
        clear hs hq
        go_wp2_with fail
        refine sm.mono ?_
        rintro e w2 ⟨rfl, G⟩
        have bel2 := bel.trans (G.mono bel.size)
        clear sm bel G
        go_wp2
        go_roundw
        case rel => exact ⟨k + 1, by omega, by go_num, H2, bel2⟩
        case measure => simp [intOf]; omega
    · have l1 : ¬ (k : Int) < (n : Int) := by omega
      have e : r = false := by
        rw [← HR.out]
        have := HT.out
        unfold HasTo at this
        rwa [List.take_of_length_le (by have := HN.out; omega)] at this
      subst e
      go_wp2
      go_ret
      exact ⟨rfl, bel⟩
theorem elemsF_bound {name : List UInt8} {xs : List Fd} (hs : Short xs) : (elemsF name xs).length ≤ 1000 * 100001 ∧ ∀ s ∈ elemsF name xs, s.size ≤ 100000 := by
  unfold elemsF
  have hl := Nat.le_trans (valsF_le name xs) hs.len
  have hv : ∀ s ∈ valsF name xs, s.size ≤ 100000 := fun s h => by
    obtain ⟨x, hx, rfl⟩ := valsF_mem h
    exact hs.v x hx
  generalize valsF name xs = vs at hl hv
  constructor
  · have : ∀ l : List ByteArray, (∀ s ∈ l, s.size ≤ 100000) → ((l.map elsF).flatten).length ≤ l.length * 100001 := by
      intro l
      induction l with
      | nil => intro _; simp
      | cons s l ih =>
        intro h
        have h1 := (elsF_bound s).1
        have h2 := h s (by simp)
        have h3 := ih (fun x hx => h x (by simp [hx]))
        simp only [List.map_cons, List.flatten_cons, List.length_append, List.length_cons]
        omega
    exact Nat.le_trans (this vs hv) (Nat.mul_le_mul_right _ hl)
  · intro s h
    obtain ⟨l, hl, hs⟩ := List.mem_flatten.1 h
    obtain ⟨t, ht, rfl⟩ := List.mem_map.1 hl
    have h1 := (elsF_bound t).2 s hs
    have h2 := hv t ht
    omega
theorem closes_any {w : World} {v : Value} {xs : List Fd} (minor : Int) (h2 : -9223372036854775808 ≤ minor) (h3 : minor ≤ 9223372036854775807) (hv : FdsAt w v xs) (hs : Short xs) :
    Calls Tryd.prog 28 #[v, .int .i64 minor] w fun e w' => e = .returned (.bool (closesF xs minor)) ∧ Below w.heap.size w w' := by
  have r1 : Calls Tryd.prog 23 #[v, .string ⟨#[67, 111, 110, 110, 101, 99, 116, 105, 111, 110]⟩] w fun e w' => ∃ v', e = .returned v' ∧ OwnS w w' v' (elemsF (ls nCon) xs) := elements_any nCon hv (by decide) hs
  have eb := elemsF_bound (name := ls nCon) hs
  obtain ⟨base, cap, rfl, _, _⟩ := hv.is
  clear hv hs
  unfold closesF
  generalize elemsF (ls nCon) xs = es at r1 eb ⊢
  have HB := Lib.hid eb.2
  have hl := eb.1
  clear eb
  by_cases c1 : hasF (ls wClose) es = true
  · rw [if_pos c1]
    have C1 := Lib.hid c1
    clear c1
    go_enter Tryd.func28, Tryd.ntmps28
    go_wp2_with fail
    refine r1.mono ?_
    rintro e w1 ⟨v1, rfl, own, bel⟩
    have q1 : Calls Tryd.prog 50 #[.string ⟨#[99, 108, 111, 115, 101]⟩, v1] w1 fun e w' => e = .returned (.bool (hasF (ls wClose) es)) ∧ Below w1.heap.size w1 w' := has_any wClose (owns_strs own) (by omega) (by decide) (fun s h => by have := HB.out s h; omega)
    rw [C1.out] at q1
    clear r1 own
    go_wp2_with fail
    refine q1.mono ?_
    rintro e w2 ⟨rfl, G⟩
    clear q1
    go_wp2
    go_ret
    exact ⟨rfl, bel.trans (G.mono bel.size)⟩
  rw [if_neg c1]
  have c1' : hasF (ls wClose) es = false := by simpa using c1
  have C1 := Lib.hid c1'
  clear c1 c1'
  by_cases c2 : hasF (ls wKeep) es = true
  · rw [if_pos c2]
    have C2 := Lib.hid c2
    clear c2
    go_enter Tryd.func28, Tryd.ntmps28
    go_wp2_with fail
    refine r1.mono ?_
    rintro e w1 ⟨v1, rfl, own, bel⟩
    have q1 : Calls Tryd.prog 50 #[.string ⟨#[99, 108, 111, 115, 101]⟩, v1] w1 fun e w' => e = .returned (.bool (hasF (ls wClose) es)) ∧ Below w1.heap.size w1 w' := has_any wClose (owns_strs own) (by omega) (by decide) (fun s h => by have := HB.out s h; omega)
    rw [C1.out] at q1
    have V := owns_strs own
    clear r1 own
    go_wp2_with fail
    refine q1.mono ?_
    rintro e w2 ⟨rfl, G⟩
    have bel2 := bel.trans (G.mono bel.size)
    have q2 : Calls Tryd.prog 50 #[.string ⟨#[107, 101, 101, 112, 45, 97, 108, 105, 118, 101]⟩, v1] w2 fun e w' => e = .returned (.bool (hasF (ls wKeep) es)) ∧ Below w2.heap.size w2 w' := has_any wKeep (V.below G) (by omega) (by decide) (fun s h => by have := HB.out s h; omega)
    rw [C2.out] at q2
    clear q1 G V bel
    go_wp2_with fail
    refine q2.mono ?_
    rintro e w3 ⟨rfl, G⟩
    clear q2
    go_wp2
    go_ret
    exact ⟨rfl, bel2.trans (G.mono bel2.size)⟩
  · rw [if_neg c2]
    have c2' : hasF (ls wKeep) es = false := by simpa using c2
    have C2 := Lib.hid c2'
    clear c2 c2'
    go_enter Tryd.func28, Tryd.ntmps28
    go_wp2_with fail
    refine r1.mono ?_
    rintro e w1 ⟨v1, rfl, own, bel⟩
    have q1 : Calls Tryd.prog 50 #[.string ⟨#[99, 108, 111, 115, 101]⟩, v1] w1 fun e w' => e = .returned (.bool (hasF (ls wClose) es)) ∧ Below w1.heap.size w1 w' := has_any wClose (owns_strs own) (by omega) (by decide) (fun s h => by have := HB.out s h; omega)
    rw [C1.out] at q1
    have V := owns_strs own
    clear r1 own
    go_wp2_with fail
    refine q1.mono ?_
    rintro e w2 ⟨rfl, G⟩
    have bel2 := bel.trans (G.mono bel.size)
    have q2 : Calls Tryd.prog 50 #[.string ⟨#[107, 101, 101, 112, 45, 97, 108, 105, 118, 101]⟩, v1] w2 fun e w' => e = .returned (.bool (hasF (ls wKeep) es)) ∧ Below w2.heap.size w2 w' := has_any wKeep (V.below G) (by omega) (by decide) (fun s h => by have := HB.out s h; omega)
    rw [C2.out] at q2
    clear q1 G V bel
    go_wp2_with fail
    refine q2.mono ?_
    rintro e w3 ⟨rfl, G⟩
    clear q2
    go_wp2
    go_ret
    exact ⟨rfl, bel2.trans (G.mono bel2.size)⟩

/-! ### Frame -/
theorem undec_any (s : ByteArray) (m : Int) (w : World) (hs : s.size ≤ 4611686018427387904) (h2 : -9223372036854775808 ≤ m) (h3 : m ≤ 9223372036854775807) :
    Calls Tryd.prog 58 #[.string s, .int .i64 m] w fun e w' => e = .returned (.tuple #[.int .i64 (undN s m), .int .i64 (undE s m)]) ∧ w = w' := by
  unfold undN undE
  by_cases h : DecForm s
  · rw [if_pos h, if_pos h]
    by_cases c : s.size ≤ 19
    · rw [if_pos c, if_pos c]; exact undec_short s m w h c h2 h3
    · rw [if_neg c, if_neg c]; exact undec_long s m w hs h (by omega)
  · rw [if_neg h, if_neg h]; exact undec_form s m w hs h
theorem lengthOf_any (s : ByteArray) (m : Int) (w : World) (hs : s.size ≤ 4611686018427387904) (h2 : -9223372036854775808 ≤ m) (h3 : m ≤ 9223372036854775807) :
    Calls Tryd.prog 46 #[.string s, .int .i64 m] w fun e w' => e = .returned (.tuple #[.int .i64 (lenN s m), .int .i64 (lenE s m)]) ∧ w = w' := by
  have r := undec_any s m w hs h2 h3
  unfold lenN lenE
  generalize undN s m = N at *
  generalize undE s m = E at *
  by_cases c : E = 14
  · rw [if_pos c, if_pos c]
    subst c
    go_enter Tryd.func46, Tryd.ntmps46
    go_wp2_with fail
    refine r.mono ?_
    rintro e w2 ⟨rfl, rfl⟩
    clear r
    go_wp2
    go_ret2
    exact ⟨rfl, rfl⟩
  · rw [if_neg c, if_neg c]
    have g : (E == 14) = false := beq_eq_false_iff_ne.2 c
    clear c
    go_enter Tryd.func46, Tryd.ntmps46
    go_wp2_with fail
    refine r.mono ?_
    rintro e w2 ⟨rfl, rfl⟩
    clear r
    go_wp2
    go_ret2
    exact ⟨rfl, rfl⟩
set_option maxHeartbeats 1000000 in
theorem frame_any {w : World} {v : Value} {xs : List Fd} (m : Int) (hv : FdsAt w v xs) (hl : xs.length ≤ 1000000) (hr : Reach xs) (h2 : -9223372036854775808 ≤ m) (h3 : m ≤ 9223372036854775807) :
    Calls Tryd.prog 24 #[v, .int .i64 m] w fun e w' => e = .returned (.tuple #[.int .i64 (frF xs m).n, .bool (frF xs m).c, .int .i64 (frF xs m).e]) ∧ Below w.heap.size w w' := by
  have r1 : Calls Tryd.prog 21 #[v, .string ⟨#[84, 114, 97, 110, 115, 102, 101, 114, 45, 69, 110, 99, 111, 100, 105, 110, 103]⟩] w fun e w' => e = .returned (.tuple #[.string (getS (ls nTE) xs), .int .i64 (getN (ls nTE) xs)]) ∧ Below w.heap.size w w' := get_any nTE hv hl (by decide) hr
  have r2 : ∀ w2, Below w.heap.size w w2 → Calls Tryd.prog 21 #[v, .string ⟨#[67, 111, 110, 116, 101, 110, 116, 45, 76, 101, 110, 103, 116, 104]⟩] w2 fun e w' => e = .returned (.tuple #[.string (getS (ls nCL) xs), .int .i64 (getN (ls nCL) xs)]) ∧ Below w2.heap.size w2 w' := fun w2 hb => get_any nCL (hv.below hb) hl (by decide) hr
  have z1 := getS_le (name := ls nTE) hr
  have z2 := getS_le (name := ls nCL) hr
  have n1 : getN (ls nTE) xs ≤ 1000000 := Nat.le_trans (valsF_le _ _) hl
  have n2 : getN (ls nCL) xs ≤ 1000000 := Nat.le_trans (valsF_le _ _) hl
  obtain ⟨base, cap, rfl, _, _⟩ := hv.is
  clear hv hr hl
  unfold frF
  have lo := fun w => lengthOf_any (getS (ls nCL) xs) m w (by omega) h2 h3
  have sm : ∀ w, Calls Tryd.prog 47 #[.string (getS (ls nTE) xs), .string ⟨#[99, 104, 117, 110, 107, 101, 100]⟩] w fun e w' => e = .returned (.bool (sameL (ls (getS (ls nTE) xs)) (ls wChunked))) ∧ Below w.heap.size w w' := fun w => same_any (getS (ls nTE) xs) wChunked w (by omega) (by decide)
  generalize getS (ls nTE) xs = s1 at *
  generalize getS (ls nCL) xs = s2 at *
  generalize getN (ls nTE) xs = t at *
  generalize getN (ls nCL) xs = k at *
  generalize lenN s2 m = LN at *
  generalize lenE s2 m = LE at *
  generalize sameL (ls s1) (ls wChunked) = sc at *
  by_cases c0 : t = 0 ∧ k = 0
  · rw [if_pos c0]
    obtain ⟨rfl, rfl⟩ := c0
    go_enter Tryd.func24, Tryd.ntmps24
    go_wp2_with fail
    refine r1.mono ?_
    rintro e w1 ⟨rfl, G⟩
    clear r1
    go_wp2_with fail
    refine (r2 _ G).mono ?_
    rintro e w2 ⟨rfl, G2⟩
    clear r2
    go_wp2
    go_ret3
    exact ⟨rfl, G.trans (G2.mono G.size)⟩
  rw [if_neg c0]
  have hb : ((t : Int) == 0) = false ∨ (((t : Int) == 0) = true ∧ ((k : Int) == 0) = false) := by
    by_cases h : t = 0
    · exact .inr ⟨by rw [h]; rfl, by rw [beq_eq_false_iff_ne]; omega⟩
    · exact .inl (by rw [beq_eq_false_iff_ne]; omega)
  by_cases c1 : 1 < t + k
  · rw [if_pos c1]
    have g1 : (1 : Int) < (t : Int) + (k : Int) := by omega
    clear c0 c1
    rcases hb with b1 | ⟨b1, b2⟩
    all_goals
      go_enter Tryd.func24, Tryd.ntmps24
      go_wp2_with fail
      refine r1.mono ?_
      rintro e w1 ⟨rfl, G⟩
      clear r1
      go_wp2_with fail
      refine (r2 _ G).mono ?_
      rintro e w2 ⟨rfl, G2⟩
      clear r2
      go_wp2
      go_ret3
      exact ⟨rfl, G.trans (G2.mono G.size)⟩
  rw [if_neg c1]
  have g1 : ¬ (1 : Int) < (t : Int) + (k : Int) := by omega
  by_cases c2 : k = 1
  · rw [if_pos c2]
    obtain rfl : t = 0 := by omega
    subst c2
    clear hb g1 c0 c1
    go_enter Tryd.func24, Tryd.ntmps24
    go_wp2_with fail
    refine r1.mono ?_
    rintro e w1 ⟨rfl, G⟩
    clear r1
    go_wp2_with fail
    refine (r2 _ G).mono ?_
    rintro e w2 ⟨rfl, G2⟩
    clear r2
    go_wp2_with fail
    refine (lo _).mono ?_
    rintro e w3 ⟨rfl, rfl⟩
    clear lo
    go_wp2
    go_ret3
    exact ⟨rfl, G.trans (G2.mono G.size)⟩
  rw [if_neg c2]
  obtain ⟨rfl, rfl⟩ : t = 1 ∧ k = 0 := by omega
  clear hb g1 c0 c1 c2
  cases sc with
  | true =>
    rw [if_pos rfl]
    go_enter Tryd.func24, Tryd.ntmps24
    go_wp2_with fail
    refine r1.mono ?_
    rintro e w1 ⟨rfl, G⟩
    clear r1
    go_wp2_with fail
    refine (r2 _ G).mono ?_
    rintro e w2 ⟨rfl, G2⟩
    replace G := G.trans (G2.mono G.size)
    clear r2 G2
    go_wp2_with fail
    refine (sm _).mono ?_
    rintro e w3 ⟨rfl, G2⟩
    clear sm
    go_wp2
    go_ret3
    exact ⟨rfl, G.trans (G2.mono G.size)⟩
  | false =>
    rw [if_neg (by simp)]
    go_enter Tryd.func24, Tryd.ntmps24
    go_wp2_with fail
    refine r1.mono ?_
    rintro e w1 ⟨rfl, G⟩
    clear r1
    go_wp2_with fail
    refine (r2 _ G).mono ?_
    rintro e w2 ⟨rfl, G2⟩
    replace G := G.trans (G2.mono G.size)
    clear r2 G2
    go_wp2_with fail
    refine (sm _).mono ?_
    rintro e w3 ⟨rfl, G2⟩
    clear sm
    go_wp2
    go_ret3
    exact ⟨rfl, G.trans (G2.mono G.size)⟩
end Go.Proofs.YtdimjeajgmlfkaaDoor.Fi
