/-
  What bytes are read as: one record, and records one behind the other; what was written is read, what is cut off or turned isn't. No program is spoken of.
-/
import Derived.Test.YtdmgobffhpgjlaaGreatSlMath
namespace Go.Proofs.YtdmgobffhpgjlaaGreat.Sl
open Go.RowKit Go.PlainAid Go.Proofs.YtdmgobffhpgjlaaGreat.Cr
set_option linter.unusedVariables false
set_option maxRecDepth 20000

theorem app_inj {a b c d : List Nat} (h : a ++ b = c ++ d) (hl : a.length = c.length) : a = c ∧ b = d := List.append_inj h hl
theorem txt_inj {a b : ByteArray} {c d : List Nat} (ha : a.size < 256) (hb : b.size < 256) (h : txt a ++ c = txt b ++ d) : a = b ∧ c = d := by
  unfold txt at h
  rw [List.append_assoc, List.append_assoc] at h
  obtain ⟨h1, h2⟩ := app_inj h (by rw [be_len, be_len])
  have hs := be_inj (k := 1) (by simpa using ha) (by simpa using hb) h1
  obtain ⟨h3, h4⟩ := app_inj h2 (by rw [bl_len, bl_len, hs])
  exact ⟨bl_inj h3, h4⟩
theorem be8_inj {a b : Int} {c d : List Nat} (ha : 0 ≤ a ∧ a < 18446744073709551616) (hb : 0 ≤ b ∧ b < 18446744073709551616) (h : be 8 a ++ c = be 8 b ++ d) : a = b ∧ c = d := by
  obtain ⟨h1, h2⟩ := app_inj h (by rw [be_len, be_len])
  obtain ⟨m, rfl⟩ : ∃ m : Nat, a = (m : Int) := ⟨a.toNat, by omega⟩
  obtain ⟨n, rfl⟩ : ∃ n : Nat, b = (n : Int) := ⟨b.toNat, by omega⟩
  have := be_inj (k := 8) (by simp; omega) (by simp; omega) h1
  exact ⟨by rw [this], h2⟩
/-- a slip that can be has a body of its own -/
theorem body_inj {x y : Sp} (hx : Can x) (hy : Can y) (h : bodyL x = bodyL y) : x = y := by
  have h' : be 1 x.k ++ (pT x ++ pD x ++ pM x ++ pA x) = be 1 y.k ++ (pT y ++ pD y ++ pM y ++ pA y) := by
    unfold bodyL at h
    simpa [List.append_assoc] using h
  obtain ⟨h1, h2⟩ := app_inj h' (by rw [be_len, be_len])
  have hk : x.k = y.k := by
    obtain ⟨m, hm⟩ : ∃ m : Nat, x.k = (m : Int) := ⟨x.k.toNat, by have := hx.k; omega⟩
    obtain ⟨n, hn⟩ : ∃ n : Nat, y.k = (n : Int) := ⟨y.k.toNat, by have := hy.k; omega⟩
    rw [hm, hn] at h1 ⊢
    have h3 := hx.k
    have h4 := hy.k
    rw [be_inj (k := 1) (by simp; omega) (by simp; omega) h1]
  have n1 := hx.names; have n2 := hy.names
  have o1 := hx.noNames; have o2 := hy.noNames
  have d1 := hx.noDig; have d2 := hy.noDig
  have m1 := hx.noMedia; have m2 := hy.noMedia
  have a1 := hx.noTime; have a2 := hy.noTime
  have l1 := hx.dig.len; have l2 := hy.dig.len
  have s1 := hx.sz; have s2 := hy.sz
  have t1 := hx.tm; have t2 := hy.tm
  have y1 := hx.ty; have y2 := hy.ty
  unfold pT pD pM pA at h2
  obtain ⟨k, r, t, d, m, s, a⟩ := x
  obtain ⟨k', r', t', d', m', s', a'⟩ := y
  dsimp only at *
  subst hk
  have hT' : r = r' ∧ t = t' ∧ ((if hD k then d else []) ++ ((if hM k then txt m ++ be 8 s else []) ++ (if hA k then be 8 a else []))) = ((if hD k then d' else []) ++ ((if hM k then txt m' ++ be 8 s' else []) ++ (if hA k then be 8 a' else []))) := by
    cases e : hT k
    · obtain ⟨rfl, rfl⟩ := o1 e
      obtain ⟨rfl, rfl⟩ := o2 e
      refine ⟨rfl, rfl, ?_⟩
      simpa [e, List.append_assoc] using h2
    · have p1 := n1 e
      have p2 := n2 e
      simp only [e, if_true, List.append_assoc] at h2
      obtain ⟨e1, h3⟩ := txt_inj (by omega) (by omega) h2
      obtain ⟨e2, h4⟩ := txt_inj (by omega) (by omega) h3
      exact ⟨e1, e2, h4⟩
  obtain ⟨rfl, rfl, h3⟩ := hT'
  have hD' : d = d' ∧ ((if hM k then txt m ++ be 8 s else []) ++ (if hA k then be 8 a else [])) = ((if hM k then txt m' ++ be 8 s' else []) ++ (if hA k then be 8 a' else [])) := by
    cases e : hD k
    · rw [d1 e, d2 e]
      refine ⟨rfl, ?_⟩
      simpa [e] using h3
    · simp only [e, if_true] at h3
      exact app_inj h3 (by rw [l1, l2])
  obtain ⟨rfl, h4⟩ := hD'
  have hM' : m = m' ∧ s = s' ∧ (if hA k then be 8 a else []) = (if hA k then be 8 a' else []) := by
    cases e : hM k
    · obtain ⟨rfl, rfl⟩ := m1 e
      obtain ⟨rfl, rfl⟩ := m2 e
      refine ⟨rfl, rfl, ?_⟩
      simpa [e] using h4
    · simp only [e, if_true, List.append_assoc] at h4
      obtain ⟨e1, h5⟩ := txt_inj (by omega) (by omega) h4
      obtain ⟨e2, h6⟩ := be8_inj (by omega) (by omega) h5
      exact ⟨e1, e2, h6⟩
  obtain ⟨rfl, rfl, h5⟩ := hM'
  have hA' : a = a' := by
    cases e : hA k
    · rw [a1 e, a2 e]
    · simp only [e, if_true] at h5
      exact (be8_inj (c := []) (d := []) (by omega) (by omega) (by simpa using h5)).1
  rw [hA']

/-! ### one record -/
def len2 (l : List Nat) : Nat := bN (l.take 2)
def bodyOf (l : List Nat) : List Nat := (l.drop 6).take (len2 l)
open Classical in
noncomputable def RD (l : List Nat) : Sp × Int × Int :=
  if l.length < 6 then (Sp.zero, 0, 17)
  else if len2 l = 0 ∨ 1024 < len2 l then (Sp.zero, 0, 3)
  else if l.length < 6 + len2 l then (Sp.zero, 0, 17)
  else if (l.drop 2).take 4 ≠ le 4 (mor 0 (l.take 2 ++ bodyOf l)) then (Sp.zero, 0, 5)
  else if h : ∃ x, Can x ∧ bodyL x = bodyOf l then (h.choose, ((6 + len2 l : Nat) : Int), 0)
  else (Sp.zero, 0, 3)
theorem rd_few {l : List Nat} (h : l.length < 6) : RD l = (Sp.zero, 0, 17) := by unfold RD; rw [if_pos h]
theorem rd_none {l : List Nat} (h : ¬ l.length < 6) (h1 : len2 l = 0 ∨ 1024 < len2 l) : RD l = (Sp.zero, 0, 3) := by unfold RD; rw [if_neg h, if_pos h1]
theorem rd_short {l : List Nat} (h : ¬ l.length < 6) (h1 : ¬ (len2 l = 0 ∨ 1024 < len2 l)) (h2 : l.length < 6 + len2 l) : RD l = (Sp.zero, 0, 17) := by unfold RD; rw [if_neg h, if_neg h1, if_pos h2]
theorem rd_sum {l : List Nat} (h : ¬ l.length < 6) (h1 : ¬ (len2 l = 0 ∨ 1024 < len2 l)) (h2 : ¬ l.length < 6 + len2 l) (h3 : (l.drop 2).take 4 ≠ le 4 (mor 0 (l.take 2 ++ bodyOf l))) : RD l = (Sp.zero, 0, 5) := by
  unfold RD; rw [if_neg h, if_neg h1, if_neg h2, if_pos h3]
theorem rd_yes {l : List Nat} (h : ¬ l.length < 6) (h1 : ¬ (len2 l = 0 ∨ 1024 < len2 l)) (h2 : ¬ l.length < 6 + len2 l) (h3 : (l.drop 2).take 4 = le 4 (mor 0 (l.take 2 ++ bodyOf l))) {x : Sp} (hx : Can x) (hb : bodyL x = bodyOf l) : RD l = (x, ((6 + len2 l : Nat) : Int), 0) := by
  have hex : ∃ x, Can x ∧ bodyL x = bodyOf l := ⟨x, hx, hb⟩
  unfold RD
  rw [if_neg h, if_neg h1, if_neg h2, if_neg (by simpa using h3), dif_pos hex]
  have hc := hex.choose_spec
  rw [body_inj hc.1 hx (hc.2.trans hb.symm)]
theorem rd_form {l : List Nat} (h : ¬ l.length < 6) (h1 : ¬ (len2 l = 0 ∨ 1024 < len2 l)) (h2 : ¬ l.length < 6 + len2 l) (h3 : (l.drop 2).take 4 = le 4 (mor 0 (l.take 2 ++ bodyOf l))) (hx : ∀ x, Can x → bodyL x ≠ bodyOf l) : RD l = (Sp.zero, 0, 3) := by
  unfold RD
  rw [if_neg h, if_neg h1, if_neg h2, if_neg (by simpa using h3), dif_neg (by rintro ⟨x, a, b⟩; exact hx x a b)]
/-- where a record ends there was one -/
theorem rd_ok {l : List Nat} (h : (RD l).2.2 = 0) : Can (RD l).1 ∧ ∃ n : Nat, (RD l).2.1 = (n : Int) ∧ 6 ≤ n ∧ n ≤ l.length := by
  by_cases c1 : l.length < 6
  · rw [rd_few c1] at h; cases h
  by_cases c2 : len2 l = 0 ∨ 1024 < len2 l
  · rw [rd_none c1 c2] at h; cases h
  by_cases c3 : l.length < 6 + len2 l
  · rw [rd_short c1 c2 c3] at h; cases h
  by_cases c4 : (l.drop 2).take 4 = le 4 (mor 0 (l.take 2 ++ bodyOf l))
  · by_cases c5 : ∃ x, Can x ∧ bodyL x = bodyOf l
    · obtain ⟨x, hx, hb⟩ := c5
      rw [rd_yes c1 c2 c3 c4 hx hb]
      exact ⟨hx, 6 + len2 l, rfl, by omega, by omega⟩
    · rw [rd_form c1 c2 c3 c4 (fun x a b => c5 ⟨x, a, b⟩)] at h; cases h
  · rw [rd_sum c1 c2 c3 c4] at h; cases h
theorem rd_err {l : List Nat} (h : (RD l).2.2 ≠ 0) : (RD l).1 = Sp.zero ∧ (RD l).2.1 = 0 ∧ ((RD l).2.2 = 3 ∨ (RD l).2.2 = 5 ∨ (RD l).2.2 = 17) := by
  by_cases c1 : l.length < 6
  · rw [rd_few c1]; simp
  by_cases c2 : len2 l = 0 ∨ 1024 < len2 l
  · rw [rd_none c1 c2]; simp
  by_cases c3 : l.length < 6 + len2 l
  · rw [rd_short c1 c2 c3]; simp
  by_cases c4 : (l.drop 2).take 4 = le 4 (mor 0 (l.take 2 ++ bodyOf l))
  · by_cases c5 : ∃ x, Can x ∧ bodyL x = bodyOf l
    · obtain ⟨x, hx, hb⟩ := c5
      rw [rd_yes c1 c2 c3 c4 hx hb] at h
      exact absurd rfl h
    · rw [rd_form c1 c2 c3 c4 (fun x a b => c5 ⟨x, a, b⟩)]; simp
  · rw [rd_sum c1 c2 c3 c4]; simp

/-! ### what begins as a record -/
/-- two bytes of a length, four of a sum, a body, and more -/
theorem parts {n : Nat} (hn : n ≤ 1024) {s q t : List Nat} (hs : s.length = 4) (hq : q.length = n) :
    len2 (be 2 (n : Int) ++ s ++ q ++ t) = n ∧ bodyOf (be 2 (n : Int) ++ s ++ q ++ t) = q ∧ (be 2 (n : Int) ++ s ++ q ++ t).take 2 = be 2 (n : Int) ∧ ((be 2 (n : Int) ++ s ++ q ++ t).drop 2).take 4 = s ∧ (be 2 (n : Int) ++ s ++ q ++ t).length = 6 + n + t.length := by
  have e1 : (be 2 (n : Int) ++ s ++ q ++ t).take 2 = be 2 (n : Int) := by
    rw [List.append_assoc, List.append_assoc]
    exact List.take_left' (be_len _ _)
  have e2 : len2 (be 2 (n : Int) ++ s ++ q ++ t) = n := by
    unfold len2
    rw [e1, bN_be 2 n (by simp; omega)]
  refine ⟨e2, ?_, e1, ?_, ?_⟩
  · unfold bodyOf
    rw [e2, List.append_assoc, List.drop_left' (by simp [be_len, hs]), List.take_left' hq]
  · rw [List.append_assoc, List.append_assoc, List.drop_left' (be_len _ _), List.take_left' hs]
  · simp [be_len, hs, hq]; omega
theorem rd_rec {x : Sp} (h : Can x) (t : List Nat) : RD (recL (bodyL x) ++ t) = (x, (((recL (bodyL x)).length : Nat) : Int), 0) := by
  obtain ⟨b1, b2⟩ := body_len h
  obtain ⟨p1, p2, p3, p4, p5⟩ := parts (n := (bodyL x).length) (by omega) (s := le 4 (mor 0 (be 2 ((bodyL x).length : Int) ++ bodyL x))) (q := bodyL x) (t := t) (le_len _ _) rfl
  have e : recL (bodyL x) ++ t = be 2 ((bodyL x).length : Int) ++ le 4 (mor 0 (be 2 ((bodyL x).length : Int) ++ bodyL x)) ++ bodyL x ++ t := rfl
  rw [e, rec_len]
  have := rd_yes (l := be 2 ((bodyL x).length : Int) ++ le 4 (mor 0 (be 2 ((bodyL x).length : Int) ++ bodyL x)) ++ bodyL x ++ t) (by omega) (by omega) (by omega) (by rw [p2, p3, p4]) h p2.symm
  rw [this, p1]
/-- what is cut off isn't read -/
theorem rd_cut {x : Sp} (h : Can x) {k : Nat} (hk : k < (recL (bodyL x)).length) : RD ((recL (bodyL x)).take k) = (Sp.zero, 0, 17) := by
  obtain ⟨b1, b2⟩ := body_len h
  rw [rec_len] at hk
  have hl : ((recL (bodyL x)).take k).length = k := by rw [List.length_take, rec_len]; omega
  by_cases c : k < 6
  · exact rd_few (by omega)
  · have e : len2 ((recL (bodyL x)).take k) = (bodyL x).length := by
      obtain ⟨p1, _, p3, _, _⟩ := parts (n := (bodyL x).length) (by omega) (s := le 4 (mor 0 (be 2 ((bodyL x).length : Int) ++ bodyL x))) (q := bodyL x) (t := []) (le_len _ _) rfl
      rw [List.append_nil] at p1 p3
      unfold len2 at p1 ⊢
      rw [List.take_take, Nat.min_eq_left (by omega)]
      exact p1
    exact rd_short (by omega) (by omega) (by omega)

/-! ### records one behind the other -/
inductive Reads : List Nat → List Sp → Nat → Prop
  | stop {l : List Nat} (h : (RD l).2.2 ≠ 0) : Reads l [] 0
  | more {l : List Nat} {xs : List Sp} {m : Nat} (h : (RD l).2.2 = 0) (r : Reads (l.drop (RD l).2.1.toNat) xs m) : Reads l ((RD l).1 :: xs) ((RD l).2.1.toNat + m)
theorem reads_one {l : List Nat} {xs ys : List Sp} {m n : Nat} (h : Reads l xs m) : Reads l ys n → xs = ys ∧ m = n := by
  induction h generalizing ys n with
  | stop h =>
    intro r
    cases r with
    | stop h' => exact ⟨rfl, rfl⟩
    | more h' r' => exact absurd h' h
  | more h r ih =>
    intro q
    cases q with
    | stop h' => exact absurd h h'
    | more h' r' =>
      obtain ⟨rfl, rfl⟩ := ih r'
      exact ⟨rfl, rfl⟩
def recs (xs : List Sp) : List Nat := (xs.map fun x => recL (bodyL x)).flatten
theorem recs_cons (x : Sp) (xs : List Sp) : recs (x :: xs) = recL (bodyL x) ++ recs xs := rfl
theorem recs_append (a b : List Sp) : recs (a ++ b) = recs a ++ recs b := by simp [recs]
theorem recs_one (x : Sp) : recs [x] = recL (bodyL x) := by simp [recs]
theorem recs_lt : ∀ {xs : List Sp}, (∀ x ∈ xs, Can x) → ∀ y ∈ recs xs, y < 256
  | [], _, y, hy => by simp [recs] at hy
  | x :: xs, h, y, hy => by
    rw [recs_cons] at hy
    rcases List.mem_append.1 hy with c | c
    · exact rec_lt (body_lt (h x (by simp)).dig) y c
    · exact recs_lt (fun z hz => h z (by simp [hz])) y c
theorem recs_len_le : ∀ {xs : List Sp}, (∀ x ∈ xs, Can x) → (recs xs).length ≤ 414 * xs.length
  | [], _ => by simp [recs]
  | x :: xs, h => by
    have h1 := recs_len_le (xs := xs) fun z hz => h z (by simp [hz])
    have h2 := (body_len (h x (by simp))).2
    rw [recs_cons, List.length_append, rec_len, List.length_cons]
    omega
theorem reads_recs : ∀ {xs : List Sp} {t : List Nat}, (∀ x ∈ xs, Can x) → (RD t).2.2 ≠ 0 → Reads (recs xs ++ t) xs (recs xs).length
  | [], t, _, ht => .stop ht
  | x :: xs, t, h, ht => by
    have hx := rd_rec (h x (by simp)) (recs xs ++ t)
    have e : recs (x :: xs) ++ t = recL (bodyL x) ++ (recs xs ++ t) := by rw [recs_cons, List.append_assoc]
    have r := reads_recs (xs := xs) (t := t) (fun z hz => h z (by simp [hz])) ht
    have hm := Reads.more (l := recL (bodyL x) ++ (recs xs ++ t)) (xs := xs) (m := (recs xs).length) (by rw [hx]) (by
      rw [hx, Int.toNat_natCast, List.drop_left]
      exact r)
    rw [hx] at hm
    rw [e, recs_cons, List.length_append]
    exact hm
theorem reads_all {xs : List Sp} (h : ∀ x ∈ xs, Can x) : Reads (recs xs) xs (recs xs).length := by
  have := reads_recs (t := []) h (by rw [rd_few (by simp)]; decide)
  rwa [List.append_nil] at this
end Go.Proofs.YtdmgobffhpgjlaaGreat.Sl
