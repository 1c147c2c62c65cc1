/-
  The machine that takes byte by byte, and the struct in memory: where they stand together; what a line comes to.
  Steps of Add of package chunk: the struct goes where the machine goes: data and its end.
  Steps of Add of package chunk: lines.
  Contract of Add of package chunk: the struct goes where the machine goes.
  Contracts of New, Take, Done, Rest, Size of package chunk, and of Add told of the machine alone.
  A head that isn't whole isn't whole either with bytes behind it that end no line, unless there are too many; what a struct stands for.
  Contract of cut of package field: the trimmed parts of a value between marks that aren't in quotes.
-/
import Derived.Test.YtbngfphiachnoaaGreatDoorSet5
import Derived.WalkMore
import Derived.Test.YtbngfphiachnoaaGreatDoorSet4
import Derived.Test.YtbngfphiachnoaaGreatDoorSet3
section
namespace Go.Proofs.YtbngfphiachnoaaGreatDoor.Ch
open Go.RowKit Go.PlainAid
open Hx Fi
set_option linter.unusedVariables false
set_option maxRecDepth 20000
set_option linter.unusedSimpArgs false

def MdAt : Md → C → Prop
  | .line acc, c => c.nx = 0 ∧ c.part = acc ∧ acc.length ≤ 255 ∧ c.fs = 0 ∧ c.rest = [] ∧ c.wr = 0
  | .data k, c => c.nx = 1 ∧ c.due = (k : Int) ∧ 0 < k ∧ c.part = [] ∧ c.fs = 0 ∧ c.rest = [] ∧ c.wr = 0
  | .cr, c => c.nx = 2 ∧ c.part = [] ∧ c.fs = 0 ∧ c.rest = [] ∧ c.wr = 0
  | .lf, c => c.nx = 2 ∧ c.part = [13] ∧ c.fs = 0 ∧ c.rest = [] ∧ c.wr = 0
  | .trail acc k, c => c.nx = 3 ∧ c.part = acc ∧ acc.length ≤ 255 ∧ c.fs = (k : Int) ∧ k ≤ 16 ∧ c.rest = [] ∧ c.wr = 0
  | .done r, c => c.nx = 4 ∧ c.rest = r ∧ c.wr = 0
  | .err e, c => (c.nx = 0 ∨ c.nx = 2 ∨ c.nx = 3) ∧ c.rest = [] ∧ c.wr = e ∧ (e = 3 ∨ e = 4)
/-- the struct c stands for the machine's state s -/
structure St (most : Nat) (s : CS) (c : C) : Prop where
  n : c.n = (s.n : Int)
  m : c.most = (most : Int)
  u : c.data = s.u
  at_ : MdAt s.md c
theorem St.wr {most : Nat} {s : CS} {c : C} (h : St most s c) : c.wr = s.md.error := by
  have := h.at_
  cases hm : s.md <;> rw [hm] at this <;> simp only [MdAt] at this <;> simp only [Md.error]
  · exact this.2.2.2.2.2
  · exact this.2.2.2.2.2.2
  · exact this.2.2.2.2
  · exact this.2.2.2.2
  · exact this.2.2.2.2.2.2
  · exact this.2.2
  · exact this.2.2.1
theorem St.rest {most : Nat} {s : CS} {c : C} (h : St most s c) : c.rest = s.md.rest := by
  have := h.at_
  cases hm : s.md <;> rw [hm] at this <;> simp only [MdAt] at this <;> simp only [Md.rest]
  · exact this.2.2.2.2.1
  · exact this.2.2.2.2.2.1
  · exact this.2.2.2.1
  · exact this.2.2.2.1
  · exact this.2.2.2.2.2.1
  · exact this.2.1
  · exact this.2.1
theorem St.done {most : Nat} {s : CS} {c : C} (h : St most s c) : (c.nx == 4) = s.md.isDone := by
  have := h.at_
  cases hm : s.md <;> rw [hm] at this <;> simp only [MdAt] at this <;> simp only [Md.isDone]
  · rw [this.1]; rfl
  · rw [this.1]; rfl
  · rw [this.1]; rfl
  · rw [this.1]; rfl
  · rw [this.1]; rfl
  · rw [this.1]; rfl
  · rcases this.1 with e | e | e <;> rw [e] <;> rfl

section
variable {w : World} {p : Nat} {x y z : Value} {Z : Nat → Prop} {c : C} {most : Nat}
/-- the number of a line without its end: what readSize leaves, once its answer is laid down -/
theorem readSize_st (H : ChAt w p x y z Z c) (hm3 : (most : Int) ≤ 9223372036854775807) {n : Nat} {u : List UInt8} (hn : n ≤ most) (h0 : c.nx = 0) (h1 : c.n = n) (h2 : c.most = most) (h3 : c.data = u) (h4 : c.part = []) (h5 : c.fs = 0) (h6 : c.rest = []) (t : List UInt8) (ht : t.length ≤ 255) :
    Calls Tryz.prog 79 #[.pointer (some ⟨p, 0, none⟩), .string (tx t)] w fun e w' => ∃ (e1 : Int) (c1 : C), e = .returned (.int .i64 e1) ∧ Post w w' p Z c1 ∧ St most ⟨endL most n (t ++ [13]), n, u⟩ { c1 with wr := e1 } := by
  obtain ⟨nx, ms, cn, due, part, data, fs, rest, wr⟩ := c
  simp only at h0 h1 h2 h3 h4 h5 h6
  subst h0 h1 h2 h3 h4 h5 h6
  have hL : endL most n (t ++ [13]) = match numF t ((most : Int) - (n : Int)) with
      | .error e => .err e
      | .ok 0 => .trail [] 0
      | .ok (k + 1) => .data (k + 1) := by
    unfold endL
    rw [if_pos (by simp), List.dropLast_concat]
    rfl
  have hs : (tx t).size ≤ 549755813888 := by rw [tx_size]; omega
  cases hq : numF t ((most : Int) - (n : Int)) with
  | error e0 =>
    rw [hq] at hL
    have he := numF_err hq
    refine (readSize_err H (tx t) hs (by omega) (by omega) hm3 (by rw [ls_tx]; exact hq) he).mono fun e w' ⟨h1, h2⟩ => ⟨e0, _, h1, h2, ?_⟩
    rw [hL]
    exact ⟨rfl, rfl, rfl, .inl rfl, rfl, rfl, he⟩
  | ok k =>
    rw [hq] at hL
    cases k with
    | zero =>
      refine (readSize_last H (tx t) hs (by omega) (by omega) hm3 (by rw [ls_tx]; exact hq)).mono fun e w' ⟨h1, h2⟩ => ⟨0, _, h1, h2, ?_⟩
      rw [hL]
      exact ⟨rfl, rfl, rfl, rfl, rfl, by decide, rfl, by decide, rfl, rfl⟩
    | succ k =>
      refine (readSize_more H (tx t) hs (by omega) (by omega) hm3 (by rw [ls_tx]; exact hq) (Nat.succ_pos k)).mono fun e w' ⟨h1, h2⟩ => ⟨0, _, h1, h2, ?_⟩
      rw [hL]
      exact ⟨rfl, rfl, rfl, rfl, rfl, Nat.succ_pos k, rfl, rfl, rfl, rfl⟩
/-- a line behind the last chunk -/
theorem readField_st (H : ChAt w p x y z Z c) {n k : Nat} {u : List UInt8} (hk : k ≤ 16) (h0 : c.nx = 3) (h1 : c.n = n) (h2 : c.most = most) (h3 : c.data = u) (h4 : c.part = []) (h5 : c.fs = k) (h6 : c.rest = []) (t : List UInt8) (ht : t.length ≤ 255) :
    Calls Tryz.prog 80 #[.pointer (some ⟨p, 0, none⟩), .string (tx t)] w fun e w' => ∃ (e1 : Int) (c1 : C), e = .returned (.int .i64 e1) ∧ Post w w' p Z c1 ∧ St most ⟨endT k (t ++ [13]), n, u⟩ { c1 with wr := e1 } := by
  obtain ⟨nx, ms, cn, due, part, data, fs, rest, wr⟩ := c
  simp only at h0 h1 h2 h3 h4 h5 h6
  subst h0 h1 h2 h3 h4 h5 h6
  have hL : endT k (t ++ [13]) = if t = [] then .done [] else if (parseF t).isSome = true then (if 16 ≤ k then .err 4 else .trail [] (k + 1)) else .err 3 := by
    unfold endT
    rw [if_pos (by simp), List.dropLast_concat]
  have hs : (tx t).size ≤ 549755813888 := by rw [tx_size]; omega
  by_cases e0 : t = []
  · rw [if_pos e0] at hL
    refine (readField_end H (tx t) hs (by rw [tx_size, e0]; rfl)).mono fun e w' ⟨h1, h2⟩ => ⟨0, _, h1, h2, ?_⟩
    rw [hL]
    exact ⟨rfl, rfl, rfl, rfl, rfl, rfl⟩
  · rw [if_neg e0] at hL
    have hpos : 0 < (tx t).size := by rw [tx_size]; exact List.length_pos_iff.2 e0
    cases hp : parseF t with
    | none =>
      rw [hp, if_neg (by simp)] at hL
      refine (readField_form H (tx t) hs hpos (by rw [ls_tx]; exact hp)).mono fun e w' ⟨h1, h2⟩ => ⟨3, _, h1, h2, ?_⟩
      rw [hL]
      exact ⟨rfl, rfl, rfl, .inr (.inr rfl), rfl, rfl, .inl rfl⟩
    | some g =>
      rw [hp, if_pos (show (some g).isSome = true from rfl)] at hL
      by_cases c16 : 16 ≤ k
      · rw [if_pos c16] at hL
        refine (readField_long H (tx t) hs hpos (by rw [ls_tx]; exact hp) (by omega)).mono fun e w' ⟨h1, h2⟩ => ⟨4, _, h1, h2, ?_⟩
        rw [hL]
        exact ⟨rfl, rfl, rfl, .inr (.inr rfl), rfl, rfl, .inr rfl⟩
      · rw [if_neg c16] at hL
        refine (readField_one H (tx t) hs hpos (by rw [ls_tx]; exact hp) (by omega) (by omega)).mono fun e w' ⟨h1, h2⟩ => ⟨0, _, h1, h2, ?_⟩
        rw [hL]
        exact ⟨rfl, rfl, rfl, rfl, rfl, by decide, by simp, by omega, rfl, rfl⟩
/-- a line that is gathered: not yet whole, none, or whole -/
theorem gather_good (H : ChAt w p x y z Z c) (s : ByteArray) (hs : s.size ≤ 549755813888) (h0 : 0 < s.size) {l r t : List UInt8} (hs2 : ls s = l ++ 10 :: r) (h10 : (10 : UInt8) ∉ l) (hl : c.part.length + l.length ≤ 255) (h13 : c.part ++ l = t ++ [13]) :
    Calls Tryz.prog 78 #[.pointer (some ⟨p, 0, none⟩), .string s] w fun e w' => e = .returned (.tuple #[.string (tx t), .string (tx r), .int .i64 0]) ∧ Post w w' p Z { c with part := [] } := by
  by_cases hr : c.part.length + s.size < 256
  · exact gather_goodA H s hs h0 hr hs2 h10 hl h13
  · exact gather_goodB H s hs h0 (by omega) hs2 h10 hl h13
theorem gather_bad (H : ChAt w p x y z Z c) (s : ByteArray) (hs : s.size ≤ 549755813888) (h0 : 0 < s.size) {l r : List UInt8} (hs2 : ls s = l ++ 10 :: r) (h10 : (10 : UInt8) ∉ l) (hl : c.part.length + l.length ≤ 255) (h13 : (c.part ++ l).getLast? ≠ some 13) :
    Calls Tryz.prog 78 #[.pointer (some ⟨p, 0, none⟩), .string s] w fun e w' => e = .returned (.tuple #[.string ⟨#[]⟩, .string ⟨#[]⟩, .int .i64 3]) ∧ Post w w' p Z { c with part := [] } := by
  by_cases hr : c.part.length + s.size < 256
  · exact gather_badA H s hs h0 hr hs2 h10 hl h13
  · exact gather_badB H s hs h0 (by omega) hs2 h10 hl h13
/-- the line that a text begins with, behind what has come of it -/
theorem line_cases (acc l : List UInt8) (ha : acc.length ≤ 255) : ((10 : UInt8) ∉ l ∧ acc.length + l.length < 256) ∨ ((10 : UInt8) ∉ l.take (256 - acc.length) ∧ 256 ≤ acc.length + l.length) ∨ ∃ q r, l = q ++ 10 :: r ∧ (10 : UInt8) ∉ q ∧ acc.length + q.length ≤ 255 := by
  cases hc : cutB 10 (l.take (256 - acc.length)) with
  | none =>
    have hn := cutB_none.1 hc
    by_cases h : acc.length + l.length < 256
    · rw [List.take_of_length_le (by omega)] at hn
      exact .inl ⟨hn, h⟩
    · exact .inr (.inl ⟨hn, by omega⟩)
  | some v =>
    obtain ⟨q, r⟩ := v
    obtain ⟨e, hq⟩ := cutB_some hc
    have hlen := congrArg List.length e
    rw [List.length_take, List.length_append, List.length_cons] at hlen
    refine .inr (.inr ⟨q, r ++ l.drop (256 - acc.length), ?_, hq, by omega⟩)
    rw [← List.cons_append, ← List.append_assoc, ← e, List.take_append_drop]
end
end Go.Proofs.YtbngfphiachnoaaGreatDoor.Ch
end

section
namespace Go.Proofs.YtbngfphiachnoaaGreatDoor.Ch
open Go.RowKit Go.PlainAid
open Hx Fi
set_option linter.unusedVariables false
set_option maxRecDepth 20000
set_option linter.unusedSimpArgs false

theorem add_nil (s : ByteArray) (w : World) : Calls Tryz.prog 50 #[.pointer none, .string s] w fun e w' => e = .returned (.int .i64 2) ∧ w = w' := by
  go_enter Tryz.func50, Tryz.ntmps50
  go_wp2
  go_step3
  go_wp2
  rw [Exit.noGoto_ret]
  go_ret
  exact ⟨rfl, rfl⟩
/-- where the walk of Add stands: what is left to read is r; what readers answered, e, is not yet laid down -/
structure InvE (w wr : World) (p : Nat) (Z : Nat → Prop) (most : Nat) (s0 : CS) (l0 : List UInt8) (r : ByteArray) (e : Int) : Prop where
  is : ∃ (s : CS) (c : C) (Z' : Nat → Prop), Has wr p Z' c ∧ Goes w wr Z Z' ∧ St most s { c with wr := e } ∧ s.Ok most ∧ run most s (ls r) = run most s0 l0 ∧ s.u.length + r.size ≤ s0.u.length + l0.length ∧ s.md.rest.length + r.size ≤ s0.md.rest.length + l0.length
structure Inv (w wr : World) (p : Nat) (Z : Nat → Prop) (most : Nat) (s0 : CS) (l0 : List UInt8) (r : ByteArray) : Prop where
  is : ∃ (s : CS) (c : C) (Z' : Nat → Prop), Has wr p Z' c ∧ Goes w wr Z Z' ∧ St most s c ∧ s.Ok most ∧ run most s (ls r) = run most s0 l0 ∧ s.u.length + r.size ≤ s0.u.length + l0.length ∧ s.md.rest.length + r.size ≤ s0.md.rest.length + l0.length
section
variable {w wr : World} {p : Nat} {Z : Nat → Prop} {most : Nat} {s0 : CS} {l0 : List UInt8} {r : ByteArray} {e1 : Int}
theorem InvE.cell (h : InvE w wr p Z most s0 l0 r e1) : (∃ v, wr.cell? ⟨p, 8, none⟩ = some (.int .i64 v)) ∧ wr.frozen? ⟨p, 8, none⟩ = false := by
  obtain ⟨s, c, Z', ⟨x, y, z, H⟩, _⟩ := h.is
  exact ⟨⟨_, H.c8⟩, H.fz 8⟩
theorem InvE.store (h : InvE w wr p Z most s0 l0 r e1) : Inv w (wr.setCell ⟨p, 8, none⟩ (.int .i64 e1)) p Z most s0 l0 r := by
  obtain ⟨s, c, Z', ⟨x, y, z, H⟩, G, st, rest⟩ := h.is
  obtain ⟨H2, G2⟩ := H.num 8 (.int .i64 e1) (c' := { c with wr := e1 }) rfl rfl rfl rfl
  exact ⟨s, _, Z', ⟨x, y, z, H2⟩, G.trans G2, st, rest⟩
/-- all is read -/
def Fin (w wr : World) (p : Nat) (Z : Nat → Prop) (most : Nat) (s1 : CS) : Prop := ∃ (c : C) (Z' : Nat → Prop), Has wr p Z' c ∧ Goes w wr Z Z' ∧ St most s1 c
theorem Fin.cell (h : Fin w wr p Z most s0) : wr.cell? ⟨p, 8, none⟩ = some (.int .i64 s0.md.error) := by
  obtain ⟨c, Z', ⟨x, y, z, H⟩, _, st⟩ := h
  rw [H.c8, st.wr]
def AddPost (w : World) (p : Nat) (Z : Nat → Prop) (most : Nat) (s1 : CS) (e : Ending) (w' : World) : Prop := e = .returned (.int .i64 s1.md.error) ∧ Fin w w' p Z most s1
theorem Inv.over (h : Inv w wr p Z most s0 l0 r) (h0 : r.size = 0) : Fin w wr p Z most (run most s0 l0) := by
  obtain ⟨s, c, Z', H, G, st, ok, e, _⟩ := h.is
  rw [ls_empty h0, run_nil] at e
  exact ⟨c, Z', H, G, e ▸ st⟩

/-! ### data -/
theorem tx_le {l : List UInt8} {n : Nat} (h : l.length ≤ n) : (tx l).size ≤ n := by rw [tx_size]; exact h
theorem step_data {s : CS} {c : C} {Z' : Nat → Prop} {x y z : Value} (H : ChAt wr p x y z Z' c) (G : Goes w wr Z Z') (st : St most s c) (ok : s.Ok most) {k : Nat} (hmd : s.md = .data k) (he : run most s (ls r) = run most s0 l0) (hm : (most : Int) ≤ 9223372036854775807)
    (h0 : 0 < r.size) (hu : s.u.length + r.size ≤ s0.u.length + l0.length) (hr : s.md.rest.length + r.size ≤ s0.md.rest.length + l0.length) (hU : s0.u.length + l0.length ≤ 1099511627776) :
    Calls Tryz.prog 76 #[.pointer (some ⟨p, 0, none⟩), .string r] wr fun e w' => ∃ r' : ByteArray, e = .returned (.string r') ∧ r'.size < r.size ∧ Inv w w' p Z most s0 l0 r' := by
  obtain ⟨md, n, u⟩ := s
  simp only at hmd
  subst hmd
  obtain ⟨nx, ms, cn, due, part, data, fs, rest, wv⟩ := c
  obtain ⟨e1, e2, e3, a⟩ := st
  simp only [MdAt] at e1 e2 e3 a
  obtain ⟨rfl, rfl, hk, rfl, rfl, rfl, rfl⟩ := a
  subst e1 e2 e3
  have okn := ok.n
  have oku := ok.u
  simp only [Md.ahead] at okn oku
  simp only at hu oku
  by_cases c : r.size < k
  · refine (readData_few H r c (by omega) (by omega) (by omega) (by omega)).mono fun e w' ⟨h1, Z2, H2, G2⟩ => ⟨tx [], h1, h0, ?_⟩
    have hrun : run most ⟨.data k, n, data⟩ (ls r) = ⟨.data (k - r.size), n + r.size, data ++ ls r⟩ := by
      have := run_data (most := most) n data (ls r) n data k (by rw [ls_len]; exact c)
      rw [ls_len] at this; exact this
    rw [hrun] at he
    exact ⟨⟨.data (k - r.size), n + r.size, data ++ ls r⟩, _, Z2, H2, G.trans G2, ⟨by show (n : Int) + r.size = _; simp, rfl, rfl, rfl, rfl, by omega, rfl, rfl, rfl, rfl⟩, by rw [← hrun]; exact ok.run, by rw [ls_tx, run_nil]; exact he,
      by show (data ++ ls r).length + 0 ≤ _; rw [List.length_append, ls_len]; omega, by show 0 + 0 ≤ _; omega⟩
  · have hk2 : k ≤ r.size := by omega
    refine (readData_all H r hk2 (by omega) (by omega) (by omega) (by omega)).mono fun e w' ⟨h1, Z2, H2, G2⟩ => ⟨tx ((ls r).drop k), h1, by rw [tx_size, List.length_drop, ls_len]; omega, ?_⟩
    have hrun : run most ⟨.data k, n, data⟩ ((ls r).take k) = ⟨.cr, n + k, data ++ (ls r).take k⟩ :=
      run_data_all (most := most) ((ls r).take k) n data k (by rw [List.length_take, ls_len]; omega) hk
    have he2 : run most ⟨.cr, n + k, data ++ (ls r).take k⟩ ((ls r).drop k) = run most s0 l0 := by
      rw [← hrun, ← run_append, List.take_append_drop]; exact he
    refine ⟨⟨.cr, n + k, data ++ (ls r).take k⟩, _, Z2, H2, G.trans G2, ⟨by show (n : Int) + k = _; simp, rfl, rfl, rfl, rfl, rfl, rfl, rfl⟩, by rw [← hrun]; exact ok.run, by rw [ls_tx]; exact he2, ?_, ?_⟩
    · show (data ++ (ls r).take k).length + (tx ((ls r).drop k)).size ≤ _
      rw [List.length_append, tx_size, List.length_take, List.length_drop, ls_len]; omega
    · show 0 + (tx ((ls r).drop k)).size ≤ _
      rw [tx_size, List.length_drop, ls_len]
      have hr2 : 0 + r.size ≤ _ := hr
      omega
/-! ### the end of data -/
theorem ls_cons {r : ByteArray} (h0 : 0 < r.size) : ∃ b q, ls r = b :: q ∧ r.size = q.length + 1 := by
  cases h : ls r with
  | nil => have := ls_len r; rw [h] at this; simp at this; omega
  | cons b q => exact ⟨b, q, rfl, by rw [← ls_len, h]; rfl⟩
theorem step_end {s : CS} {c : C} {Z' : Nat → Prop} {x y z : Value} (H : ChAt wr p x y z Z' c) (G : Goes w wr Z Z') (st : St most s c) (ok : s.Ok most) (hmd : s.md = .cr ∨ s.md = .lf) (he : run most s (ls r) = run most s0 l0) 
    (h0 : 0 < r.size) (hz : r.size ≤ 549755813888) (hu : s.u.length + r.size ≤ s0.u.length + l0.length) (hr : s.md.rest.length + r.size ≤ s0.md.rest.length + l0.length) :
    Calls Tryz.prog 77 #[.pointer (some ⟨p, 0, none⟩), .string r] wr fun e w' => ∃ (r' : ByteArray) (e1 : Int), e = .returned (.tuple #[.string r', .int .i64 e1]) ∧ r'.size < r.size ∧ InvE w w' p Z most s0 l0 r' e1 := by
  obtain ⟨b, q, hq, hqz⟩ := ls_cons h0
  rw [hq, run_cons] at he
  have ok2 := ok.step b
  obtain ⟨md, n, u⟩ := s
  obtain ⟨nx, ms, cn, due, part, data, fs, rest, wv⟩ := c
  obtain ⟨e1, e2, e3, a⟩ := st
  simp only at hmd
  rcases hmd with rfl | rfl
  · simp only [MdAt] at e1 e2 e3 a
    obtain ⟨rfl, rfl, rfl, rfl, rfl⟩ := a
    subst e1 e2 e3
    simp only at hu
    by_cases hb : b = 13
    · subst hb
      refine (readEnd_cr (part := []) H r hz hq).mono fun e w' ⟨h1, Z2, H2, G2⟩ => ⟨tx q, 0, h1, by rw [tx_size]; omega, ?_⟩
      exact ⟨⟨.lf, n, data⟩, _, Z2, H2, G.trans G2, ⟨rfl, rfl, rfl, rfl, rfl, rfl, rfl, rfl⟩, ok2, by rw [ls_tx]; exact he, by show data.length + (tx q).size ≤ _; rw [tx_size]; omega, by show 0 + (tx q).size ≤ _; rw [tx_size]; have hr2 : 0 + r.size ≤ _ := hr; omega⟩
    · refine (readEnd_bad1 (part := []) H r hz hb hq).mono fun e w' ⟨h1, Z2, H2, G2⟩ => ⟨⟨#[]⟩, 3, h1, h0, ?_⟩
      have hst : stepB most ⟨.cr, n, data⟩ b = ⟨.err 3, n, data⟩ := by
        show (⟨if b = 13 then .lf else .err 3, n, data⟩ : CS) = _
        rw [if_neg hb]
      rw [hst] at he ok2
      rw [run_err] at he
      exact ⟨⟨.err 3, n, data⟩, _, Z2, H2, G.trans G2, ⟨rfl, rfl, rfl, .inr (.inl rfl), rfl, rfl, .inl rfl⟩, ok2, by rw [ls_nil, run_nil]; exact he, by show data.length + 0 ≤ _; omega, by show 0 + 0 ≤ _; omega⟩
  · simp only [MdAt] at e1 e2 e3 a
    obtain ⟨rfl, rfl, rfl, rfl, rfl⟩ := a
    subst e1 e2 e3
    simp only at hu
    by_cases hb : b = 10
    · subst hb
      refine (readEnd_lf (part := []) H r hz hq).mono fun e w' ⟨h1, Z2, H2, G2⟩ => ⟨tx q, 0, h1, by rw [tx_size]; omega, ?_⟩
      exact ⟨⟨.line [], n, data⟩, _, Z2, H2, G.trans G2, ⟨rfl, rfl, rfl, rfl, rfl, by decide, rfl, rfl, rfl⟩, ok2, by rw [ls_tx]; exact he, by show data.length + (tx q).size ≤ _; rw [tx_size]; omega, by show 0 + (tx q).size ≤ _; rw [tx_size]; have hr2 : 0 + r.size ≤ _ := hr; omega⟩
    · refine (readEnd_bad2 (part := []) H r hz hb hq).mono fun e w' ⟨h1, Z2, H2, G2⟩ => ⟨⟨#[]⟩, 3, h1, h0, ?_⟩
      have hst : stepB most ⟨.lf, n, data⟩ b = ⟨.err 3, n, data⟩ := by
        show (⟨if b = 10 then .line [] else .err 3, n, data⟩ : CS) = _
        rw [if_neg hb]
      rw [hst] at he ok2
      rw [run_err] at he
      exact ⟨⟨.err 3, n, data⟩, _, Z2, H2, G.trans G2, ⟨rfl, rfl, rfl, .inr (.inl rfl), rfl, rfl, .inl rfl⟩, ok2, by rw [ls_nil, run_nil]; exact he, by show data.length + 0 ≤ _; omega, by show 0 + 0 ≤ _; omega⟩
end
end Go.Proofs.YtbngfphiachnoaaGreatDoor.Ch
end

section
namespace Go.Proofs.YtbngfphiachnoaaGreatDoor.Ch
open Go.RowKit Go.PlainAid
open Hx Fi
set_option linter.unusedVariables false
set_option maxRecDepth 20000
set_option linter.unusedSimpArgs false

section
variable {w wr : World} {p : Nat} {Z : Nat → Prop} {most : Nat} {s0 : CS} {l0 : List UInt8} {r : ByteArray} {s : CS} {c : C} {Z' : Nat → Prop} {x y z : Value} {acc : List UInt8}
theorem step_wait (H : ChAt wr p x y z Z' c) (G : Goes w wr Z Z') (st : St most s c) (hmd : s.md = .line acc ∨ ∃ k, s.md = .trail acc k) (he : run most s (ls r) = run most s0 l0)
    (h0 : 0 < r.size) (hz : r.size ≤ 549755813888) (h10 : (10 : UInt8) ∉ ls r) (hl : acc.length + r.size < 256) :
    Calls Tryz.prog 78 #[.pointer (some ⟨p, 0, none⟩), .string r] wr fun e w' => e = .returned (.tuple #[.string ⟨#[]⟩, .string ⟨#[]⟩, .int .i64 17]) ∧ Fin w w' p Z most (run most s0 l0) := by
  have hll : (ls r).length = r.size := ls_len r
  obtain ⟨md, n, u⟩ := s
  obtain ⟨nx, ms, cn, due, part, data, fs, rest, wv⟩ := c
  obtain ⟨e1, e2, e3, a⟩ := st
  simp only at hmd
  rcases hmd with rfl | ⟨k, rfl⟩
  · simp only [MdAt] at e1 e2 e3 a
    obtain ⟨rfl, rfl, ha, rfl, rfl, rfl⟩ := a
    subst e1 e2 e3
    refine (gather_wait H r hz h0 hl h10).mono fun e w' ⟨h1, Z2, H2, G2⟩ => ⟨h1, ?_⟩
    rw [run_line n data (ls r) part h10 (by omega)] at he
    rw [← he]
    exact ⟨_, Z2, H2, G.trans G2, rfl, rfl, rfl, rfl, rfl, by rw [List.length_append]; omega, rfl, rfl, rfl⟩
  · simp only [MdAt] at e1 e2 e3 a
    obtain ⟨rfl, rfl, ha, rfl, hk, rfl, rfl⟩ := a
    subst e1 e2 e3
    refine (gather_wait H r hz h0 hl h10).mono fun e w' ⟨h1, Z2, H2, G2⟩ => ⟨h1, ?_⟩
    rw [run_trail n data k (ls r) part h10 (by omega)] at he
    rw [← he]
    exact ⟨_, Z2, H2, G.trans G2, rfl, rfl, rfl, rfl, rfl, by rw [List.length_append]; omega, rfl, hk, rfl, rfl⟩
theorem endL_bad {n : Nat} {a : List UInt8} (h : a.getLast? ≠ some 13) : endL most n a = .err 3 := by unfold endL; rw [if_neg h]
theorem endT_bad {k : Nat} {a : List UInt8} (h : a.getLast? ≠ some 13) : endT k a = .err 3 := by unfold endT; rw [if_neg h]
theorem step_fail (H : ChAt wr p x y z Z' c) (G : Goes w wr Z Z') (st : St most s c) (ok : s.Ok most) (hmd : s.md = .line acc ∨ ∃ k, s.md = .trail acc k) (he : run most s (ls r) = run most s0 l0)
    (h0 : 0 < r.size) (hz : r.size ≤ 549755813888) (hu : s.u.length + r.size ≤ s0.u.length + l0.length)
    (hf : ((10 : UInt8) ∉ (ls r).take (256 - acc.length) ∧ 256 ≤ acc.length + r.size) ∨ ∃ q t, ls r = q ++ 10 :: t ∧ (10 : UInt8) ∉ q ∧ acc.length + q.length ≤ 255 ∧ (acc ++ q).getLast? ≠ some 13) :
    Calls Tryz.prog 78 #[.pointer (some ⟨p, 0, none⟩), .string r] wr fun e w' => e = .returned (.tuple #[.string ⟨#[]⟩, .string ⟨#[]⟩, .int .i64 3]) ∧ InvE w w' p Z most s0 l0 ⟨#[]⟩ 3 := by
  have hll : (ls r).length = r.size := ls_len r
  have ok2 := ok.run (l := ls r)
  have fin : ∀ {c1 : C} {Z2 : Nat → Prop} {w' : World} {n : Nat} {u : List UInt8}, run most s (ls r) = ⟨.err 3, n, u⟩ → s.u = u → Has w' p Z2 c1 → Goes wr w' Z' Z2 → c1.n = n → c1.most = most → c1.data = u → c1.rest = [] → (c1.nx = 0 ∨ c1.nx = 2 ∨ c1.nx = 3) → InvE w w' p Z most s0 l0 ⟨#[]⟩ 3 := by
    intro c1 Z2 w' n u hr hu2 H2 G2 a1 a2 a3 a4 a5
    rw [hr] at he ok2
    refine ⟨⟨.err 3, n, u⟩, c1, Z2, H2, G.trans G2, ⟨a1, a2, a3, a5, a4, rfl, .inl rfl⟩, ok2, by rw [ls_nil, run_nil]; exact he, ?_, ?_⟩
    · show u.length + 0 ≤ _
      rw [← hu2]; omega
    · show 0 + 0 ≤ _
      omega
  obtain ⟨md, n, u⟩ := s
  obtain ⟨nx, ms, cn, due, part, data, fs, rest, wv⟩ := c
  obtain ⟨e1, e2, e3, a⟩ := st
  simp only at hmd
  rcases hmd with rfl | ⟨k, rfl⟩
  · simp only [MdAt] at e1 e2 e3 a
    obtain ⟨rfl, rfl, ha, rfl, rfl, rfl⟩ := a
    subst e1 e2 e3
    rcases hf with ⟨h10, hl⟩ | ⟨q, t, hq, h10, hl, h13⟩
    · exact (gather_long H r hz h0 hl h10 ha).mono fun e w' ⟨h1, Z2, H2, G2⟩ => ⟨h1, fin (run_line_long n data (ls r) part h10 ha (by omega)) rfl H2 G2 rfl rfl rfl rfl (.inl rfl)⟩
    · refine (gather_bad H r hz h0 hq h10 hl h13).mono fun e w' ⟨h1, Z2, H2, G2⟩ => ⟨h1, fin ?_ rfl H2 G2 rfl rfl rfl rfl (.inl rfl)⟩
      rw [hq, run_line_end n data q t part h10 hl, endL_bad h13, run_err]
  · simp only [MdAt] at e1 e2 e3 a
    obtain ⟨rfl, rfl, ha, rfl, hk, rfl, rfl⟩ := a
    subst e1 e2 e3
    rcases hf with ⟨h10, hl⟩ | ⟨q, t, hq, h10, hl, h13⟩
    · exact (gather_long H r hz h0 hl h10 ha).mono fun e w' ⟨h1, Z2, H2, G2⟩ => ⟨h1, fin (run_trail_long n data k (ls r) part h10 ha (by omega)) rfl H2 G2 rfl rfl rfl rfl (.inr (.inr rfl))⟩
    · refine (gather_bad H r hz h0 hq h10 hl h13).mono fun e w' ⟨h1, Z2, H2, G2⟩ => ⟨h1, fin ?_ rfl H2 G2 rfl rfl rfl rfl (.inr (.inr rfl))⟩
      rw [hq, run_trail_end n data q t k part h10 hl, endT_bad h13, run_err]
theorem md_rest_line {n : Nat} {a : List UInt8} : (endL most n a).rest = [] := by
  unfold endL
  split
  · split <;> rfl
  · rfl
theorem step_line (H : ChAt wr p x y z Z' c) (G : Goes w wr Z Z') (st : St most s c) (ok : s.Ok most) (hmd : s.md = .line acc) (he : run most s (ls r) = run most s0 l0) (hm : (most : Int) ≤ 9223372036854775807)
    (h0 : 0 < r.size) (hz : r.size ≤ 549755813888) (hu : s.u.length + r.size ≤ s0.u.length + l0.length) (hr : s.md.rest.length + r.size ≤ s0.md.rest.length + l0.length) {q t : List UInt8} (hq : ls r = q ++ 10 :: t) (h10 : (10 : UInt8) ∉ q) (hl : acc.length + q.length ≤ 255) {ln : List UInt8} (h13 : acc ++ q = ln ++ [13]) :
    Calls Tryz.prog 78 #[.pointer (some ⟨p, 0, none⟩), .string r] wr fun e w1 => e = .returned (.tuple #[.string (tx ln), .string (tx t), .int .i64 0]) ∧ w1.cell? ⟨p, 0, none⟩ = some (.int .i64 0) ∧ (Calls Tryz.prog 79 #[.pointer (some ⟨p, 0, none⟩), .string (tx ln)] w1 fun e w2 => ∃ e1, e = .returned (.int .i64 e1) ∧ InvE w w2 p Z most s0 l0 (tx t) e1) := by
  have hll : (ls r).length = r.size := ls_len r
  have htz : t.length + q.length + 1 = r.size := by rw [← hll, hq]; simp; omega
  have hlz : ln.length ≤ 255 := by have := congrArg List.length h13; simp at this; omega
  obtain ⟨md, n, u⟩ := s
  obtain ⟨nx, ms, cn, due, part, data, fs, rest, wv⟩ := c
  obtain ⟨e1, e2, e3, a⟩ := st
  simp only at hmd
  subst hmd
  simp only [MdAt] at e1 e2 e3 a
  obtain ⟨rfl, rfl, ha, rfl, rfl, rfl⟩ := a
  subst e1 e2 e3
  have okn : n + 0 ≤ most := ok.n
  refine (gather_good H r hz h0 hq h10 hl h13).mono fun e w1 ⟨h1, Z2, ⟨x2, y2, z2, H2⟩, G2⟩ => ⟨h1, H2.c0, ?_⟩
  refine (readSize_st H2 hm (n := n) (by omega) rfl rfl rfl rfl rfl rfl rfl ln hlz).mono fun e w2 ⟨e1, c1, h2, ⟨Z3, H3, G3⟩, st3⟩ => ⟨e1, h2, ?_⟩
  have hrun := run_line_end (most := most) n data q t part h10 hl
  rw [hq, hrun, h13] at he
  have ok2 : CS.Ok most ⟨endL most n (ln ++ [13]), n, data⟩ := by
    have h := CS.Ok.run (most := most) (l := q ++ [10]) ok
    have h2 := run_line_end (most := most) n data q [] part h10 hl
    rw [run_nil, h13] at h2
    rwa [h2] at h
  exact ⟨⟨endL most n (ln ++ [13]), n, data⟩, c1, Z3, H3, G.trans (G2.trans G3), st3, ok2, by rw [ls_tx]; exact he, by show data.length + (tx t).size ≤ _; rw [tx_size]; have : data.length + r.size ≤ _ := hu; omega, by rw [md_rest_line, tx_size]; have : 0 + r.size ≤ _ := hr; show 0 + t.length ≤ _; omega⟩
theorem md_rest_trail {k : Nat} {a : List UInt8} : (endT k a).rest = [] := by
  unfold endT
  split
  · split
    · rfl
    · split
      · split <;> rfl
      · rfl
  · rfl
theorem step_trail {k : Nat} (H : ChAt wr p x y z Z' c) (G : Goes w wr Z Z') (st : St most s c) (ok : s.Ok most) (hmd : s.md = .trail acc k) (he : run most s (ls r) = run most s0 l0)
    (h0 : 0 < r.size) (hz : r.size ≤ 549755813888) (hu : s.u.length + r.size ≤ s0.u.length + l0.length) (hr : s.md.rest.length + r.size ≤ s0.md.rest.length + l0.length) {q t : List UInt8} (hq : ls r = q ++ 10 :: t) (h10 : (10 : UInt8) ∉ q) (hl : acc.length + q.length ≤ 255) {ln : List UInt8} (h13 : acc ++ q = ln ++ [13]) :
    Calls Tryz.prog 78 #[.pointer (some ⟨p, 0, none⟩), .string r] wr fun e w1 => e = .returned (.tuple #[.string (tx ln), .string (tx t), .int .i64 0]) ∧ w1.cell? ⟨p, 0, none⟩ = some (.int .i64 3) ∧ (Calls Tryz.prog 80 #[.pointer (some ⟨p, 0, none⟩), .string (tx ln)] w1 fun e w2 => ∃ e1, e = .returned (.int .i64 e1) ∧ InvE w w2 p Z most s0 l0 (tx t) e1) := by
  have hll : (ls r).length = r.size := ls_len r
  have htz : t.length + q.length + 1 = r.size := by rw [← hll, hq]; simp; omega
  have hlz : ln.length ≤ 255 := by have := congrArg List.length h13; simp at this; omega
  obtain ⟨md, n, u⟩ := s
  obtain ⟨nx, ms, cn, due, part, data, fs, rest, wv⟩ := c
  obtain ⟨e1, e2, e3, a⟩ := st
  simp only at hmd
  subst hmd
  simp only [MdAt] at e1 e2 e3 a
  obtain ⟨rfl, rfl, ha, rfl, hk, rfl, rfl⟩ := a
  subst e1 e2 e3
  refine (gather_good H r hz h0 hq h10 hl h13).mono fun e w1 ⟨h1, Z2, ⟨x2, y2, z2, H2⟩, G2⟩ => ⟨h1, H2.c0, ?_⟩
  refine (readField_st (n := n) H2 hk rfl rfl rfl rfl rfl rfl rfl ln hlz).mono fun e w2 ⟨e1, c1, h2, ⟨Z3, H3, G3⟩, st3⟩ => ⟨e1, h2, ?_⟩
  have hrun := run_trail_end (most := most) n data q t k part h10 hl
  rw [hq, hrun, h13] at he
  have ok2 : CS.Ok most ⟨endT k (ln ++ [13]), n, data⟩ := by
    have h := CS.Ok.run (most := most) (l := q ++ [10]) ok
    have h2 := run_trail_end (most := most) n data q [] k part h10 hl
    rw [run_nil, h13] at h2
    rwa [h2] at h
  exact ⟨⟨endT k (ln ++ [13]), n, data⟩, c1, Z3, H3, G.trans (G2.trans G3), st3, ok2, by rw [ls_tx]; exact he, by show data.length + (tx t).size ≤ _; rw [tx_size]; have : data.length + r.size ≤ _ := hu; omega, by rw [md_rest_trail, tx_size]; have : 0 + r.size ≤ _ := hr; show 0 + t.length ≤ _; omega⟩
end
end Go.Proofs.YtbngfphiachnoaaGreatDoor.Ch
end

section
namespace Go.Proofs.YtbngfphiachnoaaGreatDoor.Ch
open Go.RowKit Go.PlainAid
open Hx Fi
set_option linter.unusedVariables false
set_option maxRecDepth 20000
set_option linter.unusedSimpArgs false

set_option maxRecDepth 100000 in
set_option maxHeartbeats 8000000 in
theorem add_any {w : World} {p : Nat} {Z : Nat → Prop} {c : C} {most : Nat} {s0 : CS} (H : Has w p Z c) (hs : St most s0 c) (ok : s0.Ok most) (hm : (most : Int) ≤ 9223372036854775807) (s : ByteArray) (hz : s.size ≤ 549755813888) (hu : s0.u.length + s.size ≤ 1099511627776) (hr : s0.md.rest.length + s.size ≤ 1099511627776) :
    Calls Tryz.prog 50 #[.pointer (some ⟨p, 0, none⟩), .string s] w (AddPost w p Z most (run most s0 (ls s))) := by
  have I0 : Inv w w p Z most s0 (ls s) s := ⟨s0, c, Z, H, Goes.refl _ _, hs, ok, rfl, by rw [ls_len]; exact Nat.le_refl _, by rw [ls_len]; exact Nat.le_refl _⟩
  have hz1 : s.size ≤ (ls s).length := by rw [ls_len]; exact Nat.le_refl _
  rw [← ls_len] at hz hu hr
  generalize ls s = l0 at *
  have HU := Lib.hid hu
  have HR := Lib.hid hr
  have HZ := Lib.hid hz
  have HM := Lib.hid hm
  clear hs ok H hu hr hz hm
  go_enter Tryz.func50, Tryz.ntmps50
  go_wp2_with fail
  go_step3
  go_wp2_with fail
  go_step3
  go_wp2_with fail
  go_loopw [1] (fun v wr => ∃ r : ByteArray, v = .string r ∧ r.size ≤ l0.length ∧ Inv w wr p Z most s0 l0 r) (fun v _ => Lib.strSize v)
  case atStart => exact ⟨s, rfl, hz1, I0⟩
  case round =>
    clear I0 hz1
    obtain ⟨r, rfl, hrz, hI⟩ := hrel
    by_cases h0 : r.size = 0
    · have F := hI.over h0
      have d8 := F.cell
      have h1 := toList_nil r h0
      clear h0 hI
      go_wp2
      rw [Exit.noGoto_ret]
      go_ret
      exact ⟨rfl, F⟩
    · have hp : 0 < r.size := by omega
      have h1 := toList_ne r hp
      have h2 := toList_ne' r hp
      have hz2 : r.size ≤ 549755813888 := by have := HZ.out; omega
      obtain ⟨q, cc, Z', ⟨x, y, z, H⟩, G, st, ok, he, hu2, hr2⟩ := hI.is
      clear hI h0
      have hw := st.wr
      have d8 := H.c8
      have d0 := H.c0
      have f8 := H.fz 8
      rw [hw] at d8
      have ha := st.at_
      cases hmd : q.md with
      | err e =>
        rw [hmd] at ha d8
        simp only [MdAt, Md.error] at ha d8
        have g8 : (e == 0) = false := by rw [beq_eq_false_iff_ne]; omega
        have F : Fin w wr p Z most (run most s0 l0) := by
          obtain ⟨md, n, u⟩ := q
          simp only at hmd
          subst hmd
          rw [run_err] at he
          rw [← he]
          exact ⟨cc, Z', ⟨x, y, z, H⟩, G, st⟩
        have d9 := F.cell
        rw [d8] at d9
        have D9 := Lib.hid d9
        clear ha hw st H he ok d9 hmd
        go_wp2
        rw [Exit.noGoto_ret]
        go_ret
        exact ⟨by have := Option.some.inj D9.out; rw [← this]; rfl, F⟩
      | data k =>
        rw [hmd] at ha d8
        simp only [MdAt, Md.error] at ha d8
        rw [ha.1] at d0
        have sd := step_data H G st ok hmd he HM.out hp hu2 hr2 HU.out
        clear ha hw st H he ok hmd hu2 hr2 G
        go_wp2_with fail
        refine sd.mono ?_
        rintro e w1 ⟨r1, rfl, hlt, I1⟩
        clear sd d0 d8 f8
        go_wp2
        go_roundw
        case rel => exact ⟨r1, rfl, by omega, I1⟩
        case measure => exact hlt
      | cr =>
        rw [hmd] at ha d8
        simp only [MdAt, Md.error] at ha d8
        rw [ha.1] at d0
        have sd := step_end H G st ok (.inl hmd) he hp hz2 hu2 hr2
        clear ha hw st H he ok hmd hu2 hr2 G
        go_wp2_with fail
        refine sd.mono ?_
        rintro e w1 ⟨r1, e1, rfl, hlt, I1⟩
        obtain ⟨⟨v8, c8⟩, g8⟩ := I1.cell
        have I2 := I1.store
        clear sd d0 d8 f8 I1
        go_wp2
        go_roundw
        case rel => exact ⟨r1, rfl, by omega, I2⟩
        case measure => exact hlt
      | lf =>
        rw [hmd] at ha d8
        simp only [MdAt, Md.error] at ha d8
        rw [ha.1] at d0
        have sd := step_end H G st ok (.inr hmd) he hp hz2 hu2 hr2
        clear ha hw st H he ok hmd hu2 hr2 G
        go_wp2_with fail
        refine sd.mono ?_
        rintro e w1 ⟨r1, e1, rfl, hlt, I1⟩
        obtain ⟨⟨v8, c8⟩, g8⟩ := I1.cell
        have I2 := I1.store
        clear sd d0 d8 f8 I1
        go_wp2
        go_roundw
        case rel => exact ⟨r1, rfl, by omega, I2⟩
        case measure => exact hlt
      | line acc =>
        rw [hmd] at ha d8
        simp only [MdAt, Md.error] at ha d8
        rw [ha.1] at d0
        rcases line_cases acc (ls r) (ha.2.2.1) with ⟨h10, hl⟩ | hrest
        · rw [ls_len] at hl
          have sw := step_wait H G st (.inl hmd) he hp hz2 h10 hl
          clear ha hw st H he ok hmd hu2 hr2 G h10 hl
          go_wp2_with fail
          refine sw.mono ?_
          rintro e w1 ⟨rfl, F⟩
          have c8 := F.cell
          clear sw d0 d8 f8
          go_wp2
          rw [Exit.noGoto_ret]
          go_ret
          exact ⟨rfl, F⟩
        have hc : (((10 : UInt8) ∉ (ls r).take (256 - acc.length) ∧ 256 ≤ acc.length + r.size) ∨ ∃ q t, ls r = q ++ 10 :: t ∧ (10 : UInt8) ∉ q ∧ acc.length + q.length ≤ 255 ∧ (acc ++ q).getLast? ≠ some 13) ∨ ∃ a t ln, ls r = a ++ 10 :: t ∧ (10 : UInt8) ∉ a ∧ acc.length + a.length ≤ 255 ∧ acc ++ a = ln ++ [13] := by
          rcases hrest with ⟨a, b⟩ | ⟨a, t, h3, h4, h5⟩
          · exact .inl (.inl ⟨a, by rw [ls_len] at b; exact b⟩)
          · by_cases h6 : (acc ++ a).getLast? = some 13
            · obtain ⟨ln, e⟩ := List.getLast?_eq_some_iff.1 h6
              exact .inr ⟨a, t, ln, h3, h4, h5, e⟩
            · exact .inl (.inr ⟨a, t, h3, h4, h5, h6⟩)
        clear hrest
        rcases hc with hf | ⟨a, t, ln, hq, h10, hl, h13⟩
        · have sf := step_fail H G st ok (.inl hmd) he hp hz2 hu2 hf
          clear ha hw st H he ok hmd hu2 hr2 G hf
          go_wp2_with fail
          refine sf.mono ?_
          rintro e w1 ⟨rfl, I1⟩
          obtain ⟨⟨v8, c8⟩, g8⟩ := I1.cell
          have I2 := I1.store
          clear sf d0 d8 f8 I1
          go_wp2
          go_roundw
          case rel => exact ⟨⟨#[]⟩, rfl, Nat.zero_le _, I2⟩
          case measure => exact hp
        · have sl := step_line H G st ok hmd he HM.out hp hz2 hu2 hr2 hq h10 hl h13
          have hlt : t.length < r.size := by rw [← ls_len, hq]; simp; omega
          clear ha hw st H he ok hmd hu2 hr2 G hq h10 hl h13
          generalize hT : tx t = T at sl
          have hTz : T.size = t.length := by rw [← hT]; rfl
          have hlt2 : T.size < r.size := by omega
          clear hT hTz hlt
          generalize tx ln = LN at sl
          go_wp2_with fail
          refine sl.mono ?_
          rintro e w1 ⟨rfl, c0, sz⟩
          clear sl d0 d8 f8
          go_wp2_with fail
          refine sz.mono ?_
          rintro e w2 ⟨e1, rfl, I1⟩
          obtain ⟨⟨v8, c8⟩, g8⟩ := I1.cell
          have I2 := I1.store
          clear sz c0 I1
          go_wp2
          go_roundw
          case rel => exact ⟨T, rfl, by omega, I2⟩
          case measure => exact hlt2
      | trail acc k =>
        rw [hmd] at ha d8
        simp only [MdAt, Md.error] at ha d8
        rw [ha.1] at d0
        rcases line_cases acc (ls r) (ha.2.2.1) with ⟨h10, hl⟩ | hrest
        · rw [ls_len] at hl
          have sw := step_wait H G st (.inr ⟨k, hmd⟩) he hp hz2 h10 hl
          clear ha hw st H he ok hmd hu2 hr2 G h10 hl
          go_wp2_with fail
          refine sw.mono ?_
          rintro e w1 ⟨rfl, F⟩
          have c8 := F.cell
          clear sw d0 d8 f8
          go_wp2
          rw [Exit.noGoto_ret]
          go_ret
          exact ⟨rfl, F⟩
        have hc : (((10 : UInt8) ∉ (ls r).take (256 - acc.length) ∧ 256 ≤ acc.length + r.size) ∨ ∃ q t, ls r = q ++ 10 :: t ∧ (10 : UInt8) ∉ q ∧ acc.length + q.length ≤ 255 ∧ (acc ++ q).getLast? ≠ some 13) ∨ ∃ a t ln, ls r = a ++ 10 :: t ∧ (10 : UInt8) ∉ a ∧ acc.length + a.length ≤ 255 ∧ acc ++ a = ln ++ [13] := by
          rcases hrest with ⟨a, b⟩ | ⟨a, t, h3, h4, h5⟩
          · exact .inl (.inl ⟨a, by rw [ls_len] at b; exact b⟩)
          · by_cases h6 : (acc ++ a).getLast? = some 13
            · obtain ⟨ln, e⟩ := List.getLast?_eq_some_iff.1 h6
              exact .inr ⟨a, t, ln, h3, h4, h5, e⟩
            · exact .inl (.inr ⟨a, t, h3, h4, h5, h6⟩)
        clear hrest
        rcases hc with hf | ⟨a, t, ln, hq, h10, hl, h13⟩
        · have sf := step_fail H G st ok (.inr ⟨k, hmd⟩) he hp hz2 hu2 hf
          clear ha hw st H he ok hmd hu2 hr2 G hf
          go_wp2_with fail
          refine sf.mono ?_
          rintro e w1 ⟨rfl, I1⟩
          obtain ⟨⟨v8, c8⟩, g8⟩ := I1.cell
          have I2 := I1.store
          clear sf d0 d8 f8 I1
          go_wp2
          go_roundw
          case rel => exact ⟨⟨#[]⟩, rfl, Nat.zero_le _, I2⟩
          case measure => exact hp
        · have sl := step_trail H G st ok hmd he hp hz2 hu2 hr2 hq h10 hl h13
          have hlt : t.length < r.size := by rw [← ls_len, hq]; simp; omega
          clear ha hw st H he ok hmd hu2 hr2 G hq h10 hl h13
          generalize hT : tx t = T at sl
          have hTz : T.size = t.length := by rw [← hT]; rfl
          have hlt2 : T.size < r.size := by omega
          clear hT hTz hlt
          generalize tx ln = LN at sl
          go_wp2_with fail
          refine sl.mono ?_
          rintro e w1 ⟨rfl, c0, sz⟩
          clear sl d0 d8 f8
          go_wp2_with fail
          refine sz.mono ?_
          rintro e w2 ⟨e1, rfl, I1⟩
          obtain ⟨⟨v8, c8⟩, g8⟩ := I1.cell
          have I2 := I1.store
          clear sz c0 I1
          go_wp2
          go_roundw
          case rel => exact ⟨T, rfl, by omega, I2⟩
          case measure => exact hlt2
      | done rs =>
        rw [hmd] at ha d8
        simp only [MdAt, Md.error] at ha d8
        rw [ha.1] at d0
        have hrl : cc.rest.length + r.size ≤ 1099511627776 := by
          rw [ha.2.1]
          have h3 : rs.length + r.size ≤ s0.md.rest.length + l0.length := by rw [hmd] at hr2; exact hr2
          have := HR.out
          omega
        have d7 := H.c7
        have fin : ∀ {o4 : Option Addr} {m4 k4 : Nat} {w4 : World}, wr.grownBy w4 z.ownBlock → Row w4 (.slice o4 m4 k4) (cc.rest ++ ls r) → Lies wr z (.slice o4 m4 k4) → w4.cell? ⟨p, 7, none⟩ = some z ∧ w4.frozen? ⟨p, 7, none⟩ = false ∧ Fin w (w4.setCell ⟨p, 7, none⟩ (.slice o4 m4 k4)) p Z most (run most s0 l0) := by
          intro o4 m4 k4 w4 g4 r4 l4
          have hp4 := H.st.same (g4.block p H.st.lt fun e => row_ne H.pz H.st e.symm rfl)
          obtain ⟨H2, G2⟩ := H.rowZ g4 r4 l4
          refine ⟨hp4.cell 7, hp4.frozen 7, ?_⟩
          obtain ⟨md, n, u⟩ := q
          simp only at hmd
          subst hmd
          rw [run_done] at he
          rw [← he]
          exact ⟨_, _, ⟨_, _, _, H2⟩, G.trans G2, st.n, st.m, st.u, ha.1, by show cc.rest ++ ls r = rs ++ ls r; rw [ha.2.1], ha.2.2⟩
        have hpz := H.pz
        clear ha hw st he ok hmd hu2 hr2 G H
        go_upto_region 19 with (at_builtin; refine wpl_app (s := r) hpz hrl rfl _ _ rfl rfl rfl ?_; intro o4 m4 k4 w4 r4 g4 l4; obtain ⟨d7b, f7b, F⟩ := fin g4 r4 l4; clear r4 g4 l4)
        generalize w4.setCell ⟨p, 7, none⟩ (.slice o4 m4 k4) = w5 at F ⊢
        have c8 := F.cell
        clear d8 d0 d7 d7b f7b
        go_wp2
        rw [Exit.noGoto_ret]
        go_ret
        exact ⟨rfl, F⟩
end Go.Proofs.YtbngfphiachnoaaGreatDoor.Ch
end

section
namespace Go.Proofs.YtbngfphiachnoaaGreatDoor.Ch
open Go.RowKit Go.PlainAid
open Hx Fi
set_option linter.unusedVariables false
set_option maxRecDepth 20000
set_option linter.unusedSimpArgs false

/-- at p stands a body that is read, in the machine's state s; its blocks are Z -/
def Of (w : World) (p : Nat) (Z : Nat → Prop) (most : Nat) (s : CS) : Prop := ∃ c, Has w p Z c ∧ St most s c
theorem Of.lt {w : World} {p : Nat} {Z : Nat → Prop} {most : Nat} {s : CS} (h : Of w p Z most s) : ∀ b, Z b → b < w.heap.size := by
  obtain ⟨c, ⟨x, y, z, H⟩, _⟩ := h
  exact H.lt
theorem Of.old {w w' : World} {p : Nat} {Z : Nat → Prop} {most : Nat} {s : CS} (h : Of w p Z most s) (hb : Below w.heap.size w w') : Of w' p Z most s := by
  obtain ⟨c, ⟨x, y, z, H⟩, st⟩ := h
  exact ⟨c, ⟨x, y, z, H.old hb⟩, st⟩
theorem Of.moved {w w' : World} {p : Nat} {Z Y Y' : Nat → Prop} {most : Nat} {s : CS} (h : Of w p Z most s) (g : Goes w w' Y Y') (d : ∀ b, Y b → ¬ Z b) : Of w' p Z most s := by
  obtain ⟨c, ⟨x, y, z, H⟩, st⟩ := h
  exact ⟨c, ⟨x, y, z, H.moved g d⟩, st⟩
/-- what a call leaves -/
def OfPost (w w' : World) (p : Nat) (Z : Nat → Prop) (most : Nat) (s : CS) : Prop := ∃ Z', Of w' p Z' most s ∧ Goes w w' Z Z'
section
variable {w : World} {p : Nat} {Z : Nat → Prop} {most : Nat} {s : CS}
theorem add_of (h : Of w p Z most s) (ok : s.Ok most) (hm : (most : Int) ≤ 9223372036854775807) (t : ByteArray) (hz : t.size ≤ 549755813888) (hu : s.u.length + t.size ≤ 1099511627776) (hr : s.md.rest.length + t.size ≤ 1099511627776) :
    Calls Tryz.prog 50 #[.pointer (some ⟨p, 0, none⟩), .string t] w fun e w' => e = .returned (.int .i64 (run most s (ls t)).md.error) ∧ OfPost w w' p Z most (run most s (ls t)) := by
  obtain ⟨c, H, st⟩ := h
  exact (add_any H st ok hm t hz hu hr).mono fun e w' ⟨h1, c1, Z1, H1, G1, st1⟩ => ⟨h1, Z1, ⟨c1, H1, st1⟩, G1⟩
def taken (s : CS) : CS := ⟨s.md, s.n, []⟩
theorem take_of (h : Of w p Z most s) :
    Calls Tryz.prog 51 #[.pointer (some ⟨p, 0, none⟩)] w fun e w' => e = .returned (.string (tx s.u)) ∧ OfPost w w' p Z most (taken s) := by
  obtain ⟨c, ⟨x, y, z, H⟩, st⟩ := h
  obtain ⟨nx, ms, cn, due, part, data, fs, rest, wv⟩ := c
  have hu : data = s.u := st.u
  subst hu
  have cv := H.py.text
  obtain ⟨oy, ky, ey, _, _⟩ := H.py.form
  simp only at cv ey
  generalize tx s.u = T at cv ⊢
  generalize s.u.length = m at ey
  subst ey
  have d5 := H.c5
  have f5 := H.fz 5
  obtain ⟨H2, G2⟩ := H.takeY
  have st2 : St most (taken s) ⟨nx, ms, cn, due, part, [], fs, rest, wv⟩ := by
    refine ⟨st.n, st.m, rfl, ?_⟩
    have a := st.at_
    show MdAt s.md _
    cases hm : s.md <;> rw [hm] at a <;> exact a
  go_enter Tryz.func51, Tryz.ntmps51
  go_wp2
  go_ret
  exact ⟨rfl, _, ⟨_, ⟨_, _, _, H2⟩, st2⟩, G2⟩
theorem done_of (h : Of w p Z most s) :
    Calls Tryz.prog 53 #[.pointer (some ⟨p, 0, none⟩)] w fun e w' => e = .returned (.bool s.md.isDone) ∧ w = w' := by
  obtain ⟨c, ⟨x, y, z, H⟩, st⟩ := h
  have d0 := H.c0
  have e := st.done
  generalize s.md.isDone = v at *
  generalize c.nx = n at *
  clear H st
  cases v with
  | true =>
    go_enter Tryz.func53, Tryz.ntmps53
    go_wp2
    go_ret
    exact ⟨rfl, rfl⟩
  | false =>
    go_enter Tryz.func53, Tryz.ntmps53
    go_wp2
    go_ret
    exact ⟨rfl, rfl⟩
theorem rest_of (h : Of w p Z most s) :
    Calls Tryz.prog 52 #[.pointer (some ⟨p, 0, none⟩)] w fun e w' => e = .returned (.string (tx s.md.rest)) ∧ w = w' := by
  obtain ⟨c, ⟨x, y, z, H⟩, st⟩ := h
  have hr := st.rest
  have cv := H.pz.text
  rw [hr] at cv
  obtain ⟨oz, kz, ez, _, _⟩ := H.pz.form
  generalize tx s.md.rest = T at cv ⊢
  generalize c.rest.length = m at ez
  subst ez
  have d7 := H.c7
  clear H st hr
  go_enter Tryz.func52, Tryz.ntmps52
  go_wp2
  go_ret
  exact ⟨rfl, rfl⟩
end
theorem take_nil (w : World) : Calls Tryz.prog 51 #[.pointer none] w fun e w' => e = .returned (.string ⟨#[]⟩) ∧ w = w' := by
  go_enter Tryz.func51, Tryz.ntmps51
  go_wp2
  go_ret
  exact ⟨rfl, rfl⟩
theorem rest_nil (w : World) : Calls Tryz.prog 52 #[.pointer none] w fun e w' => e = .returned (.string ⟨#[]⟩) ∧ w = w' := by
  go_enter Tryz.func52, Tryz.ntmps52
  go_wp2
  go_ret
  exact ⟨rfl, rfl⟩
theorem done_nil (w : World) : Calls Tryz.prog 53 #[.pointer none] w fun e w' => e = .returned (.bool false) ∧ w = w' := by
  go_enter Tryz.func53, Tryz.ntmps53
  go_wp2
  go_ret
  exact ⟨rfl, rfl⟩
/-- New: a body of at most so many bytes, below 0 as 0 -/
theorem new_of (m : Int) (w : World) (h1 : -9223372036854775808 ≤ m) (h2 : m ≤ 9223372036854775807) :
    Calls Tryz.prog 74 #[.int .i64 m] w fun e w' => e = .returned (.pointer (some ⟨w.heap.size, 0, none⟩)) ∧ Below w.heap.size w w' ∧ Of w' w.heap.size (fun b => b = w.heap.size) m.toNat init := by
  have key : ∀ v : Int, v = (m.toNat : Int) → Of (w.alloc (.cells (cV 0 v 0 0 (.slice none 0 0) (.slice none 0 0) 0 (.slice none 0 0) 0) 106)) w.heap.size (fun b => b = w.heap.size) m.toNat init := by
    intro v hv
    refine ⟨⟨0, v, 0, 0, [], [], 0, [], 0⟩, ⟨.slice none 0 0, .slice none 0 0, .slice none 0 0, ?_⟩, rfl, hv, rfl, rfl, rfl, by decide, rfl, rfl, rfl⟩
    exact ⟨At.new w _ _, Row.nil _, Row.nil _, Row.nil _, fun b hb => by simp [Value.ownBlock] at hb, fun b hb => by simp [Value.ownBlock] at hb, fun b hb => by simp [Value.ownBlock] at hb, rfl, fun b hb => by simp [Value.ownBlock] at hb, fun b hb => by simp [Value.ownBlock] at hb, fun b hb => by simp [Value.ownBlock] at hb, fun b hb => by simp; omega⟩
  have B : ∀ o, Below w.heap.size w (w.alloc o) := fun o => (Below.refl _ _).alloc (Nat.le_refl _) _
  by_cases c : m < 0
  · have k := Lib.hid (key 0 (by omega))
    clear key
    go_enter Tryz.func74, Tryz.ntmps74
    go_wp2
    go_ret
    exact ⟨rfl, B _, k.out⟩
  · have k := Lib.hid (key m (by omega))
    clear key
    go_enter Tryz.func74, Tryz.ntmps74
    go_wp2
    go_ret
    exact ⟨rfl, B _, k.out⟩
end Go.Proofs.YtbngfphiachnoaaGreatDoor.Ch
end

section
namespace Go.Proofs.YtbngfphiachnoaaGreatDoor.In
open Go.RowKit Go.PlainAid
open Hx Fi Ch
set_option linter.unusedVariables false
set_option maxRecDepth 20000
set_option linter.unusedSimpArgs false

theorem lineF_17 {l q : List UInt8} (h : lineF false l = .error 17) (hq : (10 : UInt8) ∉ q) : lineF false (l ++ q) = .error 17 := by
  unfold lineF at h ⊢
  cases hc : cutB 10 l with
  | none =>
    have hm := cutB_none.1 hc
    rw [cutB_none.2 (by simp only [List.mem_append, not_or]; exact ⟨hm, hq⟩)]
    simp
  | some p =>
    rw [hc] at h
    simp only at h
    split at h
    · cases h
    · injection h with h; omega
theorem fld_17 {q : List UInt8} (hq : (10 : UInt8) ∉ q) : ∀ (k : Nat) (l : List UInt8), l.length ≤ k → ∀ (at_ : Nat) (acc : List Fi.Fd), (fldF false l at_ acc).err = 17 → (fldF false (l ++ q) at_ acc).err = 17 := by
  intro k
  induction k with
  | zero =>
    intro l hl at_ acc h
    have : l = [] := List.eq_nil_of_length_eq_zero (by omega)
    subst this
    rw [fldF_err at_ acc (lineF_17 (l := []) rfl hq)]
  | succ k ih =>
    intro l hl at_ acc h
    cases hc : lineF false l with
    | error e =>
      rw [fldF_err at_ acc hc] at h
      have h : e = 17 := h
      subst h
      rw [fldF_err at_ acc (lineF_17 hc hq)]
    | ok p =>
      obtain ⟨x, r⟩ := p
      have hlen := lineF_len hc
      have hm := lineF_more q false hc
      by_cases hx : x = []
      · subst hx
        rw [fldF_end at_ acc hc] at h
        exact absurd (show (0 : Int) = 17 from h) (by omega)
      · cases hp : parseF x with
        | none =>
          rw [fldF_form at_ acc hc hx hp] at h
          exact absurd (show (3 : Int) = 17 from h) (by omega)
        | some f =>
          by_cases hl32 : acc.length = 32
          · rw [fldF_long at_ acc hc hx hp hl32] at h
            exact absurd (show (4 : Int) = 17 from h) (by omega)
          · rw [fldF_step at_ acc hc hx hp hl32] at h
            rw [fldF_step at_ acc hm hx hp hl32]
            exact ih r (by omega) _ _ h
theorem fld_true (k : Nat) : ∀ (l : List UInt8), l.length ≤ k → ∀ (at_ : Nat) (acc : List Fi.Fd), (fldF true l at_ acc).err ≠ 17 := by
  induction k with
  | zero =>
    intro l hl at_ acc
    have : l = [] := List.eq_nil_of_length_eq_zero (by omega)
    subst this
    rw [fldF_err at_ acc lineF_nil]
    show (4 : Int) ≠ 17
    omega
  | succ k ih =>
    intro l hl at_ acc
    cases hc : lineF true l with
    | error e =>
      rw [fldF_err at_ acc hc]
      show e ≠ 17
      intro h
      subst h
      unfold lineF at hc
      split at hc
      · simp at hc
      · split at hc
        · cases hc
        · injection hc with hc; omega
    | ok p =>
      obtain ⟨x, r⟩ := p
      have hlen := lineF_len hc
      by_cases hx : x = []
      · subst hx
        rw [fldF_end at_ acc hc]
        show (0 : Int) ≠ 17
        omega
      · cases hp : parseF x with
        | none =>
          rw [fldF_form at_ acc hc hx hp]
          show (3 : Int) ≠ 17
          omega
        | some f =>
          by_cases hl32 : acc.length = 32
          · rw [fldF_long at_ acc hc hx hp hl32]
            show (4 : Int) ≠ 17
            omega
          · rw [fldF_step at_ acc hc hx hp hl32]
            exact ih r (by omega) _ _
/-- what isn't whole yet is short -/
theorem spl_short {l : List UInt8} (h : (spl l).err = 17) : l.length < 4096 := by
  by_cases c : 4096 ≤ l.length
  · exfalso
    unfold spl at h
    rw [decide_eq_true c] at h
    cases hc : lineF true (l.take 4096) with
    | error e =>
      rw [hc] at h
      have h : e = 17 := h
      subst h
      unfold lineF at hc
      split at hc
      · simp at hc
      · split at hc
        · cases hc
        · injection hc with hc; omega
    | ok p =>
      obtain ⟨x, r⟩ := p
      rw [hc] at h
      simp only at h
      split at h
      · exact absurd (show (3 : Int) = 17 from h) (by omega)
      · split at h
        · exact absurd (show (4 : Int) = 17 from h) (by omega)
        · exact fld_true r.length r (Nat.le_refl _) _ _ h
  · omega
theorem spl_17 {l q : List UInt8} (h : (spl l).err = 17) (hq : (10 : UInt8) ∉ q) (hl : (l ++ q).length < 4096) : (spl (l ++ q)).err = 17 := by
  have hs := spl_short h
  unfold spl at h ⊢
  rw [decide_eq_false (by omega), List.take_of_length_le (by omega)] at h
  rw [decide_eq_false (by omega), List.take_of_length_le (by omega)]
  cases hc : lineF false l with
  | error e =>
    rw [hc] at h
    have h : e = 17 := h
    subst h
    rw [lineF_17 hc hq]
  | ok p =>
    obtain ⟨x, r⟩ := p
    rw [hc] at h
    rw [lineF_more q false hc]
    simp only at h ⊢
    split at h
    · exact absurd (show (3 : Int) = 17 from h) (by omega)
    · split at h
      · exact absurd (show (4 : Int) = 17 from h) (by omega)
      · rename_i h1 h2
        rw [if_neg h1, if_neg h2]
        exact fld_17 hq r.length r (Nat.le_refl _) _ _ h
theorem spl_17_nil : (spl []).err = 17 := by simp [spl, lineF, cutB]
/-- more bytes, of which the first a are known to be no whole head -/
theorem spl_asked {l : List UInt8} {a : Nat} (h : (spl (l.take a)).err = 17) (hq : (10 : UInt8) ∉ l.drop a) (hl : l.length < 4096) : (spl l).err = 17 := by
  have := spl_17 h hq (by rw [List.take_append_drop]; exact hl)
  rwa [List.take_append_drop] at this

/-! ### what a struct holds, and what it stands for -/
structure I where
  st : Int
  asked : Int
  rd : Int
  due : Int
  wr : Int
  l2 : List UInt8
  q : Rq
  R : Option CS
def q0 : Rq := ⟨[], [], [], false⟩
/-- what has come of a request that isn't answered is l, and st is wrong with it (0: nothing) -/
structure Wrg (c : I) (l : List UInt8) (st : Int) : Prop where
  ne : st ≠ 0
  wr : c.wr = st
  rd : c.rd = (l.length : Int)
  l2 : c.l2 = []
structure Hea (c : I) (l : List UInt8) : Prop where
  wr : c.wr = 0
  st : c.st = 0
  rd : c.rd = 0
  l2 : c.l2 = l
  asked : ∃ a : Nat, c.asked = (a : Int) ∧ a ≤ l.length ∧ (spl (l.take a)).err = 17
structure Beh (c : I) (l pre : List UInt8) (f : Fr) : Prop where
  wr : c.wr = 0
  ll : l = pre ++ c.l2
  rd : c.rd = (pre.length : Int)
  e : (spl l).err = 0
  n : (spl l).n ≤ pre.length
  q : headQ (spl l) = .ok (c.q, f)
structure Bod (c : I) (l pre : List UInt8) (f : Fr) : Prop extends Beh c l pre f where
  st : c.st = 1
  fc : f.c = false
  due : ∃ d : Nat, c.due = (d : Int) ∧ pre.length + d = (spl l).n + f.n.toNat
structure Chu (c : I) (l pre : List UInt8) (f : Fr) : Prop extends Beh c l pre f where
  st : c.st = 2
  fc : f.c = true
  R : c.R = some (taken (run 4096 init (pre.drop (spl l).n)))
  more : (run 4096 init (pre.drop (spl l).n)).md.isDone = false ∧ (run 4096 init (pre.drop (spl l).n)).md.error = 0
structure Who (c : I) (l pre : List UInt8) : Prop where
  wr : c.wr = 0
  st : c.st = 3
  ll : l = pre ++ c.l2
  rd : c.rd = (pre.length : Int)
  is : rdF l = .ok c.q pre.length
inductive IsAt (c : I) (l : List UInt8) : Int → Prop where
  | wrong {st : Int} (h : Wrg c l st) : IsAt c l st
  | head (h : Hea c l) : IsAt c l 0
  | body (pre : List UInt8) (f : Fr) (h : Bod c l pre f) : IsAt c l 0
  | chunks (pre : List UInt8) (f : Fr) (h : Chu c l pre f) : IsAt c l 0
  | whole (pre : List UInt8) (h : Who c l pre) : IsAt c l 0
theorem IsAt.wr {c : I} {l : List UInt8} {st : Int} (h : IsAt c l st) : c.wr = st := by
  cases h with
  | wrong h => exact h.wr
  | head h => exact h.wr
  | body _ _ h => exact h.wr
  | chunks _ _ h => exact h.wr
  | whole _ h => exact h.wr
/-- how many bytes are left -/
theorem IsAt.left {c : I} {l : List UInt8} {st : Int} (h : IsAt c l st) : c.rd + (c.l2.length : Int) = (l.length : Int) ∧ 0 ≤ c.rd := by
  have key : ∀ pre : List UInt8, l = pre ++ c.l2 → c.rd = (pre.length : Int) → c.rd + (c.l2.length : Int) = (l.length : Int) ∧ 0 ≤ c.rd := fun pre e r => by
    have := congrArg List.length e
    rw [List.length_append] at this
    omega
  cases h with
  | wrong h => have := h.rd; rw [h.l2]; simp; omega
  | head h => have := h.rd; rw [h.l2]; omega
  | body pre _ h => exact key pre h.ll h.rd
  | chunks pre _ h => exact key pre h.ll h.rd
  | whole pre h => exact key pre h.ll h.rd
/-! ### bytes more -/
theorem IsAt.more {c : I} {l : List UInt8} (h : IsAt c l 0) (s : List UInt8) : IsAt { c with l2 := c.l2 ++ s } (l ++ s) 0 := by
  have beh : ∀ {pre : List UInt8} {f : Fr}, Beh c l pre f → Beh { c with l2 := c.l2 ++ s } (l ++ s) pre f := fun {pre f} b => by
    have hs := spl_more l s (by rw [b.e]; omega)
    exact ⟨b.wr, by rw [b.ll, List.append_assoc], b.rd, by rw [hs]; exact b.e, by rw [hs]; exact b.n, by rw [hs]; exact b.q⟩
  cases h with
  | wrong h => exact absurd rfl h.ne
  | head h =>
    obtain ⟨a, h1, h2, h3⟩ := h.asked
    exact .head ⟨h.wr, h.st, h.rd, by show c.l2 ++ s = l ++ s; rw [h.l2], a, h1, by rw [List.length_append]; omega, by rw [List.take_append_of_le_length h2]; exact h3⟩
  | body pre f h =>
    have hs := spl_more l s (by rw [h.e]; omega)
    exact .body pre f { toBeh := beh h.toBeh, st := h.st, fc := h.fc, due := by rw [hs]; exact h.due }
  | chunks pre f h =>
    have hs := spl_more l s (by rw [h.e]; omega)
    exact .chunks pre f { toBeh := beh h.toBeh, st := h.st, fc := h.fc, R := by rw [hs]; exact h.R, more := by rw [hs]; exact h.more }
  | whole pre h =>
    exact .whole pre ⟨h.wr, h.st, by rw [h.ll, List.append_assoc], h.rd, by rw [rd_stays l s (by rw [h.is]; intro e; cases e)]; exact h.is⟩
/-! ### the steps of Next, plainly -/
/-- it is refused -/
def refused (c : I) (st : Int) : I := ⟨0, 0, c.rd + (c.l2.length : Int), 0, st, [], q0, none⟩
theorem refused_is {c : I} {l : List UInt8} {st : Int} (h : c.rd + (c.l2.length : Int) = (l.length : Int)) (hs : st ≠ 0) : IsAt (refused c st) l st := .wrong ⟨hs, rfl, h, rfl⟩
/-- it is handed out -/
def handed (c : I) : I := ⟨0, 0, 0, 0, 0, c.l2, q0, none⟩
theorem handed_is (c : I) : IsAt (handed c) c.l2 0 := .head ⟨rfl, rfl, rfl, rfl, 0, rfl, Nat.zero_le _, by rw [List.take_zero]; exact spl_17_nil⟩
/-- n bytes are read -/
def passed (c : I) (n : Nat) : I := { c with l2 := c.l2.drop n, rd := c.rd + (n : Int) }
theorem Bod.step {c : I} {l pre : List UInt8} {f : Fr} (h : Bod c l pre f) {d : Nat} (hd : c.due = (d : Int)) (hl : d ≤ c.l2.length) :
    rdF l = .ok c.q (pre.length + d) ∧ Who { passed c d with due := 0, st := 3 } l (pre ++ c.l2.take d) := by
  obtain ⟨d', h1, h2⟩ := h.due
  obtain rfl : d' = d := by omega
  have hlen := congrArg List.length h.ll
  rw [List.length_append] at hlen
  have hr : rdF l = .ok c.q (pre.length + d') := by
    rw [rd_sized h.e h.q (by rw [h.fc]; simp), if_neg (by omega), h2]
  refine ⟨hr, h.wr, rfl, ?_, ?_, ?_⟩
  · show l = pre ++ c.l2.take d' ++ c.l2.drop d'
    rw [List.append_assoc, List.take_append_drop]; exact h.ll
  · show c.rd + (d' : Int) = ((pre ++ c.l2.take d').length : Int)
    rw [List.length_append, List.length_take, h.rd]; omega
  · show rdF l = .ok c.q (pre ++ c.l2.take d').length
    rw [hr, List.length_append, List.length_take, Nat.min_eq_left hl]
theorem Bod.wait {c : I} {l pre : List UInt8} {f : Fr} (h : Bod c l pre f) {d : Nat} (hd : c.due = (d : Int)) (hl : c.l2.length < d) :
    rdF l = .more ∧ Bod { passed c c.l2.length with due := ((d - c.l2.length : Nat) : Int) } l l f := by
  obtain ⟨d', h1, h2⟩ := h.due
  obtain rfl : d' = d := by omega
  have hlen := congrArg List.length h.ll
  rw [List.length_append] at hlen
  have hn := h.n
  refine ⟨by rw [rd_sized h.e h.q (by rw [h.fc]; simp), if_pos (by omega)], { wr := h.wr, ll := ?_, rd := ?_, e := h.e, n := by omega, q := h.q, st := h.st, fc := h.fc, due := ⟨d' - c.l2.length, rfl, by omega⟩ }⟩
  · show l = l ++ c.l2.drop c.l2.length
    rw [List.drop_length, List.append_nil]
  · show c.rd + (c.l2.length : Int) = (l.length : Int)
    rw [h.rd]; omega
theorem bodyC_u {q : Rq} {R T : CS} {n : Nat} (h : R.md = T.md) : bodyC q R n = bodyC q T n := by unfold bodyC; rw [h]
theorem rest_none {md : Md} (h : md.isDone = false) : md.rest = [] := by cases md <;> first | rfl | cases h
theorem done_err {md : Md} (h : md.isDone = true) : md.error = 0 := by cases md <;> first | rfl | cases h
/-- where the chunks stand once the rest of what has come is fed to them -/
theorem Chu.runs {c : I} {l pre : List UInt8} {f : Fr} (h : Chu c l pre f) : ∃ T, run 4096 (taken (run 4096 init (pre.drop (spl l).n))) c.l2 = T ∧ (run 4096 init (l.drop (spl l).n)).md = T.md ∧ taken (run 4096 init (l.drop (spl l).n)) = taken T ∧ rdF l = bodyC c.q T l.length ∧ T.md.rest.length ≤ c.l2.length := by
  refine ⟨_, rfl, ?_⟩
  have e : l.drop (spl l).n = pre.drop (spl l).n ++ c.l2 := by
    have h2 := congrArg (List.drop (spl l).n) h.ll
    rwa [List.drop_append_of_le_length h.n] at h2
  have h1 : run 4096 init (l.drop (spl l).n) = run 4096 (run 4096 init (pre.drop (spl l).n)) c.l2 := by rw [e, run_append]
  have h2 := run_shift (most := 4096) (run 4096 init (pre.drop (spl l).n)).u c.l2 (taken (run 4096 init (pre.drop (spl l).n)))
  have h3 : (⟨(taken (run 4096 init (pre.drop (spl l).n))).md, (taken (run 4096 init (pre.drop (spl l).n))).n, (run 4096 init (pre.drop (spl l).n)).u ++ (taken (run 4096 init (pre.drop (spl l).n))).u⟩ : CS) = run 4096 init (pre.drop (spl l).n) := by
    show (⟨_, _, _ ++ []⟩ : CS) = _
    rw [List.append_nil]; rfl
  rw [h3] at h2
  have hm : (run 4096 init (l.drop (spl l).n)).md = (run 4096 (taken (run 4096 init (pre.drop (spl l).n))) c.l2).md := by rw [h1, h2]
  refine ⟨hm, ?_, ?_, ?_⟩
  · rw [h1, h2]; rfl
  · rw [rd_chunks h.e h.q h.fc]; exact bodyC_u hm
  · have := rest_le 4096 c.l2 (taken (run 4096 init (pre.drop (spl l).n)))
    have e2 : (taken (run 4096 init (pre.drop (spl l).n))).md.rest.length = 0 := by
      show (run 4096 init (pre.drop (spl l).n)).md.rest.length = 0
      rw [rest_none h.more.1]; rfl
    omega
theorem Chu.step {c : I} {l pre : List UInt8} {f : Fr} (h : Chu c l pre f) {T : CS} (h1 : rdF l = bodyC c.q T l.length) (h2 : T.md.rest.length ≤ c.l2.length) (hd : T.md.isDone = true) (R : Option CS) :
    Who { passed c (c.l2.length - T.md.rest.length) with R := R, st := 3 } l (pre ++ c.l2.take (c.l2.length - T.md.rest.length)) := by
  have hlen := congrArg List.length h.ll
  rw [List.length_append] at hlen
  refine ⟨h.wr, rfl, ?_, ?_, ?_⟩
  · show l = pre ++ c.l2.take _ ++ c.l2.drop _
    rw [List.append_assoc, List.take_append_drop]; exact h.ll
  · show c.rd + ((c.l2.length - T.md.rest.length : Nat) : Int) = _
    rw [List.length_append, List.length_take, h.rd]; omega
  · show rdF l = .ok c.q _
    rw [h1]
    unfold bodyC
    rw [if_pos hd, List.length_append, List.length_take]
    congr 1
    omega
theorem Chu.wait {c : I} {l pre : List UInt8} {f : Fr} (h : Chu c l pre f) {T : CS} (h0 : taken (run 4096 init (l.drop (spl l).n)) = taken T) (hm : (run 4096 init (l.drop (spl l).n)).md = T.md) (h1 : rdF l = bodyC c.q T l.length) (hd : T.md.isDone = false) (he : T.md.error = 0) :
    rdF l = .more ∧ Chu { passed c (c.l2.length - T.md.rest.length) with R := some (taken T) } l l f := by
  have hlen := congrArg List.length h.ll
  rw [List.length_append] at hlen
  have hn := h.n
  have hr : T.md.rest.length = 0 := by rw [rest_none hd]; rfl
  refine ⟨by rw [h1]; unfold bodyC; rw [if_neg (by rw [hd]; simp), if_pos he], { wr := h.wr, ll := ?_, rd := ?_, e := h.e, n := by omega, q := h.q, st := h.st, fc := h.fc, R := by rw [h0], more := by rw [hm]; exact ⟨hd, he⟩ }⟩
  · show l = l ++ c.l2.drop _
    rw [hr, Nat.sub_zero, List.drop_length, List.append_nil]
  · show c.rd + ((c.l2.length - T.md.rest.length : Nat) : Int) = (l.length : Int)
    rw [h.rd, hr]; omega
theorem Chu.bad {c : I} {l : List UInt8} {T : CS} (h1 : rdF l = bodyC c.q T l.length) (he : T.md.error ≠ 0) : rdF l = .bad (if T.md.error = 4 then 413 else 400) := by
  have hd : T.md.isDone = false := by
    cases h : T.md.isDone with
    | false => rfl
    | true => exact absurd (done_err h) he
  rw [h1]
  unfold bodyC
  rw [if_neg (by rw [hd]; simp), if_neg he]
  split <;> rfl
/-- which state comes how late -/
def rank (c : I) : Nat := if c.st = 0 then 3 else if c.st = 3 then 0 else 1
/-- what a step of Next comes to: it goes on, or not -/
def Stp (c : I) (l : List UInt8) (b : Bool) (c' : I) : Prop :=
  if b = true then IsAt c' l 0 ∧ rank c' < rank c else (rdF l = .more ∧ IsAt c' l 0) ∨ ∃ st, rdF l = .bad st ∧ IsAt c' l st
end Go.Proofs.YtbngfphiachnoaaGreatDoor.In
end

section
namespace Go.Proofs.YtbngfphiachnoaaGreatDoor.Fi
open Go.RowKit Go.PlainAid
open Hx
set_option linter.unusedVariables false
set_option maxRecDepth 20000
set_option linter.unusedSimpArgs false

/-- where the walk of cut stands -/
structure CutInv (mark : UInt8) (s : ByteArray) (k b : Nat) (q : Bool) (ps : List ByteArray) : Prop where
  inv : (cutA mark (ls s)).map tx = ps ++ (cutQ mark ((ls s).drop k) q (((ls s).take k).drop b)).map tx
theorem CutInv.zero (mark : UInt8) (s : ByteArray) : CutInv mark s 0 0 false [] := ⟨by simp [cutA]⟩
section
variable {mark : UInt8} {s : ByteArray} {k b : Nat} {q : Bool} {ps : List ByteArray}
theorem part_snoc (hk : k < s.size) (hb : b ≤ k) {c : UInt8} (ht : (ls s).take (k + 1) = (ls s).take k ++ [c]) : ((ls s).take (k + 1)).drop b = ((ls s).take k).drop b ++ [c] := by
  rw [ht, List.drop_append_of_le_length (by rw [List.length_take, ls_len]; omega)]
theorem CutInv.quote (h : CutInv mark s k b q ps) (hk : k < s.size) (hb : b ≤ k) (e : bt s k = 34) : CutInv mark s (k + 1) b (!q) ps := by
  obtain ⟨c, _, ec, _, tc, dc⟩ := get_ls hk
  have : c = 34 := (byte_eq c 34).1 (by rw [← ec, e]; rfl)
  subst this
  refine ⟨?_⟩
  rw [h.inv, dc, cutQ_quote, part_snoc hk hb tc]
theorem CutInv.esc (h : CutInv mark s k b true ps) (hk : k < s.size) (hb : b ≤ k) (e : bt s k = 92) : CutInv mark s (k + 2) b true ps := by
  obtain ⟨c, _, ec, _, tc, dc⟩ := get_ls hk
  have : c = 92 := (byte_eq c 92).1 (by rw [← ec, e]; rfl)
  subst this
  refine ⟨?_⟩
  by_cases h1 : k + 1 < s.size
  · obtain ⟨d, _, _, _, td, dd⟩ := get_ls h1
    rw [h.inv, dc, dd, cutQ_esc, part_snoc (k := k + 1) h1 (by omega) td, part_snoc hk hb tc, List.append_assoc]
    rfl
  · have e1 : (ls s).drop (k + 1) = [] := List.drop_of_length_le (by rw [ls_len]; omega)
    have e2 : (ls s).drop (k + 2) = [] := List.drop_of_length_le (by rw [ls_len]; omega)
    have e3 : (ls s).take (k + 2) = (ls s).take (k + 1) := by rw [List.take_of_length_le (by rw [ls_len]; omega), List.take_of_length_le (by rw [ls_len]; omega)]
    rw [h.inv, dc, e1, cutQ_last, e2, cutQ_nil, e3, part_snoc hk hb tc]
theorem CutInv.next (h : CutInv mark s k b false ps) (hm : mark ≠ 34) (hk : k < s.size) (hb : b ≤ k) (e : bt s k = (mark.toNat : Int)) : CutInv mark s (k + 1) (k + 1) false (ps ++ [tx (trimT (ls (s.extract b k)))]) := by
  obtain ⟨c, _, ec, _, tc, dc⟩ := get_ls hk
  have : c = mark := (byte_eq c mark).1 (by rw [← ec, e])
  subst this
  refine ⟨?_⟩
  have e1 : ((ls s).take (k + 1)).drop (k + 1) = [] := List.drop_of_length_le (by rw [List.length_take]; omega)
  rw [h.inv, dc, cutQ_mark _ hm, e1, ls_extract, List.drop_take]
  simp
theorem CutInv.else (h : CutInv mark s k b q ps) (hk : k < s.size) (hb : b ≤ k) (h1 : ¬ (q = true ∧ bt s k = 92)) (h2 : bt s k ≠ 34) (h3 : ¬ (bt s k = (mark.toNat : Int) ∧ q = false)) : CutInv mark s (k + 1) b q ps := by
  obtain ⟨c, _, ec, _, tc, dc⟩ := get_ls hk
  refine ⟨?_⟩
  rw [h.inv, dc, cutQ_else mark c q _ _ (fun x => h1 ⟨x.1, by rw [ec, x.2]; rfl⟩) (fun x => h2 (by rw [ec, x]; rfl)) (fun x => h3 ⟨by rw [ec, x.1], x.2⟩), part_snoc hk hb tc]
theorem CutInv.end (h : CutInv mark s k b q ps) (hk : s.size ≤ k) : (cutA mark (ls s)).map tx = ps ++ [tx (trimT (ls (s.extract b s.size)))] := by
  rw [h.inv, List.drop_of_length_le (by rw [ls_len]; exact hk), cutQ_nil, List.take_of_length_le (by rw [ls_len]; exact hk), ls_extract]
  rw [List.take_of_length_le (l := (ls s).drop b) (by rw [List.length_drop, ls_len]; exact Nat.le_refl _)]
  rfl
end
def CutRel (mark : UInt8) (s : ByteArray) (w : World) (v i0 i1 i2 : Value) (wr : World) : Prop :=
  ∃ (k b m : Nat) (q : Bool) (ps : List ByteArray) (base : Option Addr) (cap : Nat), k ≤ s.size + 1 ∧ b ≤ k ∧ b ≤ s.size ∧ m ≤ k ∧ i0 = .int .i64 b ∧ i1 = .bool q ∧ i2 = .int .i64 k ∧ v = .slice base m cap ∧ Hid (m = ps.length) ∧ wr.ownsRow w.heap.size 9 1 (.slice base m cap) m (strsL ps) ∧ Below w.heap.size w wr ∧ Hid (CutInv mark s k b q ps)
set_option maxRecDepth 200000 in
set_option maxHeartbeats 4000000 in
theorem cut_any (s : ByteArray) (mark : UInt8) (n : Int) (hn : Hid (n = (mark.toNat : Int))) (h34 : mark ≠ 34) (hn1 : n ≠ 34) (hn2 : n ≠ 92) (w : World) (hs : s.size ≤ 1099511627776) :
    Calls Tryz.prog 118 #[.string s, .int .u8 n] w fun e w' => ∃ v', e = .returned v' ∧ OwnS w w' v' ((cutA mark (ls s)).map tx) := by
  obtain ⟨i0, hi, hz0, hz1, hz2⟩ := info_parts infoS
  have own0 : w.ownsRow w.heap.size 9 1 (.slice none 0 0) 0 [] := World.ownsRow_nil _ _ _ _
  have bel0 := Below.refl w.heap.size w
  have hg := get_bt s
  go_enter Tryz.func118, Tryz.ntmps118
  go_wp2
  go_loopw [5, 6, 7, 8] (fun v i0 i1 i2 wr => CutRel mark s w v i0 i1 i2 wr) (fun _ _ _ i _ => s.size + 1 - (intOf i).toNat)
  case atStart => exact ⟨0, 0, 0, false, [], none, 0, by omega, by omega, by omega, by omega, rfl, rfl, rfl, rfl, Lib.hid rfl, own0, bel0, Lib.hid (CutInv.zero _ _)⟩
  case round =>
    clear own0 bel0
    obtain ⟨k, b, m, q, ps, base, cap, hk, hbk, hbs, hm, rfl, rfl, rfl, rfl, HM, own, bel, INV⟩ := hrel
    have hN := bel.size
    by_cases hlt : k < s.size
    · have l1 : (k : Int) < (s.size : Int) := by omega
      by_cases q34 : bt s k = 34
      · have I2 := Lib.hid (INV.out.quote hlt hbk q34)
        have g34 : (bt s k == 34) = true := by rw [q34]; rfl
        have g92 : (bt s k == 92) = false := by rw [q34]; rfl
        clear q34 INV
        cases q with
        | true =>
          go_wp2
          go_roundw
          case rel => exact ⟨k + 1, b, m, false, ps, base, cap, by omega, by omega, by omega, by omega, rfl, rfl, by go_num, rfl, HM, own, bel, I2⟩
          case measure => simp [intOf]; omega
        | false =>
          go_wp2
          go_roundw
          case rel => exact ⟨k + 1, b, m, true, ps, base, cap, by omega, by omega, by omega, by omega, rfl, rfl, by go_num, rfl, HM, own, bel, I2⟩
          case measure => simp [intOf]; omega
      have g34 : (bt s k == 34) = false := beq_eq_false_iff_ne.2 q34
      cases q with
      | true =>
        by_cases q92 : bt s k = 92
        · have I2 := Lib.hid (INV.out.esc hlt hbk q92)
          have g92 : (bt s k == 92) = true := by rw [q92]; rfl
          clear q92 q34 INV
          go_wp2
          go_roundw
          case rel => exact ⟨k + 2, b, m, true, ps, base, cap, by omega, by omega, by omega, by omega, rfl, rfl, by go_num, rfl, HM, own, bel, I2⟩
          case measure => simp [intOf]; omega
        · have g92 : (bt s k == 92) = false := beq_eq_false_iff_ne.2 q92
          have I2 := Lib.hid (INV.out.else hlt hbk (fun x => q92 x.2) q34 (fun x => by cases x.2))
          clear q92 q34 INV
          cases hqn : (bt s k == n) with
          | true =>
            go_wp2
            go_roundw
            case rel => exact ⟨k + 1, b, m, true, ps, base, cap, by omega, by omega, by omega, by omega, rfl, rfl, by go_num, rfl, HM, own, bel, I2⟩
            case measure => simp [intOf]; omega
          | false =>
            go_wp2
            go_roundw
            case rel => exact ⟨k + 1, b, m, true, ps, base, cap, by omega, by omega, by omega, by omega, rfl, rfl, by go_num, rfl, HM, own, bel, I2⟩
            case measure => simp [intOf]; omega
      | false =>
        by_cases qn : bt s k = n
        · have I2 := Lib.hid (INV.out.next h34 hlt hbk (by rw [qn, hn.out]))
          have gn : (bt s k == n) = true := by rw [qn]; simp
          have ex : (s.extract b k).size ≤ 1099511627776 := by rw [ByteArray.size_extract]; omega
          have tr := trim_any (s.extract b k)
          have l2 : (b : Int) ≤ (k : Int) := by omega
          have l3 : (k : Int) ≤ (s.size : Int) := by omega
          obtain rfl : n = bt s k := qn.symm
          clear q34 INV gn
          have tr1 := fun w => tr w (by omega)
          clear tr
          generalize hT : tx (trimT (ls (s.extract b k))) = T at tr1
          have HT := Lib.hid hT
          clear hT
          go_wp2_with fail
          refine (tr1 _).mono ?_
          rintro e w2 ⟨rfl, G2⟩
          have own2 := owns_below own G2
          have bel2 := bel.trans (G2.mono hN)
          have hN2 := bel2.size
          clear own bel G2 tr1
          go_upto_region 14 with (at_builtin; refine wpList_append_own _ rfl _ _ 22 rfl w.heap.size 9 i0 (.string ⟨#[]⟩) 1 16 Tryz.underlying22 hi hz0 hz1 hz2 rfl (by decide) _ _ _ rfl (own2.alloc _) ⟨w2.heap.size, 0, none⟩ 1 1 [.string T] rfl ?c0 ?c1 ?c2 ?c3 ?c4 ?c5 ?_)
          case c0 => rfl
          case c1 => exact new_str w2 T
          case c2 => intro u hu; simp at hu; subst hu; rfl
          case c3 => unfold maxLen; omega
          case c4 => omega
          case c5 => simp; omega
          intro v' w4 own4 hgrow _
          have own5 : w4.ownsRow w.heap.size 9 1 v' (m + 1) (strsL (ps ++ [T])) := by
            rw [strsL_snoc]
            exact own4
          have bel5 := (bel2.alloc hN2 (.cells #[.string T] 9)).grown hgrow (by simp; omega) (fun j hj => (own2.lt j hj).1)
          clear own4 own2 hgrow bel2
          obtain ⟨b', c', rfl⟩ := own_shape own5
          rw [HT.out] at I2
          go_wp2
          go_roundw
          case rel => exact ⟨k + 1, k + 1, m + 1, false, ps ++ [T], b', c', by omega, by omega, by omega, by omega, by go_num, rfl, by go_num, rfl, Lib.hid (by rw [List.length_append, ← HM.out]; rfl), own5, bel5, I2⟩
          case measure => simp [intOf]; omega
        · have gn : (bt s k == n) = false := beq_eq_false_iff_ne.2 qn
          have I2 := Lib.hid (INV.out.else hlt hbk (fun x => by cases x.1) q34 (fun x => qn (by rw [x.1, hn.out])))
          clear qn q34 INV
          go_wp2
          go_roundw
          case rel => exact ⟨k + 1, b, m, false, ps, base, cap, by omega, by omega, by omega, by omega, rfl, rfl, by go_num, rfl, HM, own, bel, I2⟩
          case measure => simp [intOf]; omega
    · have l1 : ¬ (k : Int) < (s.size : Int) := by omega
      have E := Lib.hid (INV.out.end (by omega))
      clear INV
      have ex : (s.extract b s.size).size ≤ 1099511627776 := by rw [ByteArray.size_extract]; omega
      have tr1 := fun w => trim_any (s.extract b s.size) w (by omega)
      have l2 : (b : Int) ≤ (s.size : Int) := by omega
      generalize hT : tx (trimT (ls (s.extract b s.size))) = T at tr1
      rw [hT] at E
      clear hT
      go_wp2_with fail
      refine (tr1 _).mono ?_
      rintro e w2 ⟨rfl, G2⟩
      have own2 := owns_below own G2
      have bel2 := bel.trans (G2.mono hN)
      have hN2 := bel2.size
      clear own bel G2 tr1
      go_wp2_with (at_builtin; refine wpList_append_own _ rfl _ _ 22 rfl w.heap.size 9 i0 (.string ⟨#[]⟩) 1 16 Tryz.underlying22 hi hz0 hz1 hz2 rfl (by decide) _ _ _ rfl (own2.alloc _) ⟨w2.heap.size, 0, none⟩ 1 1 [.string T] rfl rfl (new_str w2 T) (by intro u hu; simp at hu; subst hu; rfl) (by unfold maxLen; omega) (by omega) (by simp; omega) ?_; intro v' w4 own4 hgrow hcb)
      have own5 : w4.ownsRow w.heap.size 9 1 v' (m + 1) (strsL (ps ++ [T])) := by
        rw [strsL_snoc]
        exact own4
      have bel5 := (bel2.alloc hN2 (.cells #[.string T] 9)).grown hgrow (by simp; omega) (fun j hj => (own2.lt j hj).1)
      clear own4 own2 hgrow bel2
      have hm2 : m + 1 = (ps ++ [T]).length := by rw [List.length_append, ← HM.out]; rfl
      rw [hm2] at own5
      go_ret
      exact ⟨_, rfl, by rw [E.out]; exact own5, bel5⟩
end Go.Proofs.YtbngfphiachnoaaGreatDoor.Fi
end
